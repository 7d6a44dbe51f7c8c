package console

import (
	"slices"
	"strconv"
	"strings"

	"roundtable/api"
	"roundtable/average"
	"roundtable/certificate"
	"roundtable/complex"
	"roundtable/decide"
	"roundtable/formula"
	"roundtable/homology"
	"roundtable/machine"
	"roundtable/monitor"
	"roundtable/optimal"
	"roundtable/parser"
	"roundtable/printer"
	"roundtable/protocol"
	"roundtable/resolve"
	"roundtable/search"
	"roundtable/simulate"
	"roundtable/symmetry"
	"roundtable/system"
	"roundtable/temporal"
)

// answer joins parts of different types with blanks between them.
func answer(parts ...any) string {
	var words []string
	for _, part := range parts {
		switch x := part.(type) {
		case string:
			words = append(words, x)
		case int:
			words = append(words, strconv.Itoa(x))
		case []int:
			for _, n := range x {
				words = append(words, strconv.Itoa(n))
			}
		case []string:
			words = append(words, x...)
		}
	}
	return strings.Join(words, " ")
}

// orNone returns a text, or none if it is empty.
func orNone(text string) string {
	if text == "" {
		return "none"
	}
	return text
}

// result returns an answer, if there is no error.
func result(e api.Errno, parts ...any) (string, fault) {
	if e != api.OK {
		return "", failed(e)
	}
	return answer(parts...), fault{}
}

func (s *session) help(string) (string, fault) {
	return answer(Commands()), fault{}
}

// program returns the program of a source text.
func program(src string) (api.Program, fault) {
	t, at, e := parser.Parse(src)
	if e != api.OK {
		return api.Program{}, fault{e, at}
	}
	p, at, e := resolve.Program(t)
	if e != api.OK {
		return api.Program{}, fault{e, at}
	}
	return p, fault{}
}

func (s *session) load(src string) (string, fault) {
	p, f := program(src)
	if f.e != api.OK {
		return "", f
	}
	s.State = State{Program: p, Loaded: true, Problem: -1}
	return "ok", fault{}
}

// text returns the text of the program.
func (s *session) text() (string, api.Errno) {
	t, e := resolve.Source(s.Program)
	if e != api.OK {
		return "", e
	}
	return printer.Format(t)
}

func (s *session) declare(declaration string) (string, fault) {
	text, e := s.text()
	if e != api.OK {
		return "", failed(e)
	}
	p, f := program(text + declaration)
	if f.e != api.OK {
		return "", f
	}
	s.Program = p
	return "ok", fault{}
}

func (s *session) source(string) (string, fault) {
	text, e := s.text()
	return result(e, strings.ReplaceAll(strings.TrimSuffix(text, "\n"), "\n", " "))
}

func (s *session) names(string) (string, fault) {
	var l []string
	for _, d := range s.Program.Tasks {
		l = append(l, d.Name)
	}
	for _, d := range s.Program.Adversaries {
		l = append(l, d.Name)
	}
	for _, d := range s.Program.Formulas {
		l = append(l, d.Name)
	}
	for _, d := range s.Program.Problems {
		l = append(l, d.Name)
	}
	return orNone(answer(l)), fault{}
}

func (s *session) use(name string) (string, fault) {
	index := slices.IndexFunc(s.Program.Problems, func(d api.ProblemDecl) bool { return d.Name == name })
	if index < 0 {
		return "", failed(api.ErrNone)
	}
	built, e := systemOf(s.Program, index)
	if e != api.OK {
		return "", failed(e)
	}
	s.Problem, s.system, s.Rule = index, built, api.Rule{}
	return answer("executions", len(built.Executions), "views", len(built.Table.Views), "relevant", len(system.Relevant(built))), fault{}
}

func (s *session) decide(string) (string, fault) {
	verdict, r, _, e := decide.Decide(s.system.Problem)
	if e != api.OK {
		return "", failed(e)
	}
	s.Rule = r
	if verdict == api.VerdictYes {
		return "yes", fault{}
	}
	return "no", fault{}
}

func (s *session) rule(string) (string, fault) {
	return answer(s.Rule.Out), fault{}
}

func (s *session) solutions(string) (string, fault) {
	number, e := decide.Solutions(s.system.Problem)
	return result(e, number)
}

func (s *session) rounds(string) (string, fault) {
	number, e := decide.Rounds(s.system.Problem)
	return result(e, number)
}

// keep keeps the rule of a report, and returns its measure.
func (s *session) keep(report api.Report, e api.Errno, words ...string) (string, fault) {
	if e != api.OK {
		return "", failed(e)
	}
	s.Rule = report.Rule
	return answer(words, "worst", report.Worst, "total", report.Total), fault{}
}

func (s *session) optimal(string) (string, fault) {
	report, _, e := optimal.Optimal(s.system.Problem)
	word := "not"
	if report.Optimal {
		word = "optimal"
	}
	return s.keep(report, e, word)
}

func (s *session) least(string) (string, fault) {
	report, e := average.Least(s.system.Problem)
	return s.keep(report, e)
}

func (s *session) worst(string) (string, fault) {
	report, e := average.Worst(s.system.Problem)
	return s.keep(report, e)
}

func (s *session) certificate(string) (string, fault) {
	c, ok, e := certificate.Find(s.system)
	if e != api.OK {
		return "", failed(e)
	}
	if !ok {
		return "none", fault{}
	}
	text, e := certificate.Format(c)
	return result(e, text)
}

func (s *session) accept(text string) (string, fault) {
	c, e := certificate.Parse(text)
	if e != api.OK {
		return "", failed(e)
	}
	return result(certificate.Verify(s.system, c), "accepted")
}

func (s *session) holds(text string) (string, fault) {
	f, at, e := formula.Parse(text, s.Program.N)
	if e != api.OK {
		return "", fault{e, at}
	}
	set, e := temporal.Eval(s.system, s.Rule, f)
	number := 0
	for _, ok := range set {
		if ok {
			number++
		}
	}
	return result(e, number, "of", len(set))
}

func (s *session) complex(string) (string, fault) {
	c, e := protocol.Complex(s.system)
	if e != api.OK {
		return "", failed(e)
	}
	vertices, e := complex.Vertices(c)
	if e != api.OK {
		return "", failed(e)
	}
	euler, e := complex.Euler(c)
	if e != api.OK {
		return "", failed(e)
	}
	labels, e := complex.Components(c)
	components := 0
	for _, label := range labels {
		components = max(components, label+1)
	}
	return result(e, "vertices", len(vertices), "facets", len(c.Facets), "euler", euler, "components", components)
}

func (s *session) betti(string) (string, fault) {
	c, e := protocol.Complex(s.system)
	if e != api.OK {
		return "", failed(e)
	}
	l, e := homology.Betti(c)
	return result(e, orNone(answer(l)))
}

func (s *session) symmetries(string) (string, fault) {
	l, e := symmetry.Symmetries(s.system.Problem)
	return result(e, len(l))
}

func (s *session) machine(string) (string, fault) {
	m, e := machine.Synthesize(s.system, s.Rule)
	if e != api.OK {
		return "", failed(e)
	}
	states, symbols, steps, e := machine.Size(m)
	return result(e, "states", states, "symbols", symbols, "steps", steps)
}

// number reads digits; it is more than the greatest number, if they are too many or none.
func number(text string) int {
	x := 0
	for _, c := range []byte(text) {
		if c < '0' || c > '9' {
			return api.MaxNumber + 1
		}
		x = min(x*10+int(c-'0'), api.MaxNumber+1)
	}
	return x
}

func (s *session) run(text string) (string, fault) {
	index := number(text)
	if index > api.MaxNumber {
		return "", failed(api.ErrArg)
	}
	if index >= len(s.system.Executions) {
		return "", failed(api.ErrNone)
	}
	m, e := machine.Synthesize(s.system, s.Rule)
	if e != api.OK {
		return "", failed(e)
	}
	x := s.system.Executions[index]
	trace, e := simulate.Run(m, s.system.Problem.Task.Cases[x.Case].In, x.Word)
	if e != api.OK {
		return "", failed(e)
	}
	bytes, e := simulate.Bytes(trace)
	if e != api.OK {
		return "", failed(e)
	}
	kind, e := monitor.Verdict(s.system.Problem, m, trace)
	if e != api.OK {
		return "", failed(e)
	}
	word, e := monitor.Word(kind)
	return result(e, "decides", trace.Decisions, "at", trace.Times, "bytes", bytes, "verdict", word)
}

func (s *session) slowest(string) (string, fault) {
	m, e := machine.Synthesize(s.system, s.Rule)
	if e != api.OK {
		return "", failed(e)
	}
	_, time, e := search.Worst(s.system.Problem, m)
	return result(e, "round", time)
}
