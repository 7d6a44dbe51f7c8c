package tests

import (
	"strings"
	"testing"

	"roundtable/api"
	"roundtable/console"
	"roundtable/decide"
)

const loadExample = "load processes 2; task c inputs 2 outputs 2 allow some p: all q: out(q) = in(p); adversary a = graphs(hears(1, 0)); problem p = c under a rounds 1;"

// P60.1: Begin, Do, Run and Commands.
func TestConsoleSession(t *testing.T) {
	want(t, "begin", console.Begin(), "{{0 [] [] [] []} false -1 {[]}}")
	words := "accept betti certificate complex decide declare help holds least load machine names optimal rounds rule run slowest solutions source symmetries use worst"
	want(t, "commands", strings.Join(console.Commands(), " "), words)
	lines := [][2]string{
		{"help", words}, {"help ", "error 1"}, {"load", "error 1"}, {"load ", "error 1"}, {"nothing", "error 4"}, {"", "error 4"}, {" help", "error 4"}, {"names", "error 21"}, {"declare x", "error 21"}, {"decide", "error 21"}, {"rule", "error 21"},
		{"load processes", "error 4 at 9"}, {"load processes 9;", "error 2 at 0"}, {"load processes 2;", "ok"}, {"names", "none"}, {"source", "processes 2;"}, {"use p", "error 6"},
		{loadExample, "ok"}, {"names", "c a p"}, {"decide", "error 21"}, {"use q", "error 6"}, {"use c", "error 6"}, {"use p", "executions 8 views 14 relevant 10"}, {"rule", "error 21"}, {"machine", "error 21"}, {"run 0", "error 21"}, {"slowest", "error 21"},
		{"source", "processes 2; task c inputs 2 outputs 2 allow some p0: all p1: out(p1) = in(p0); adversary a = graphs(hears(1, 0)); problem p = c under a rounds 1;"},
		{"decide", "yes"}, {"optimal", "optimal worst 1 total 8"}, {"rule", "0 -1 0 0 0 -1 0 0 1 1 1 1 1 1"}, {"run 0", "decides 0 0 at 0 1 bytes 6 verdict none"}, {"run 00", "decides 0 0 at 0 1 bytes 6 verdict none"}, {"run 8", "error 6"}, {"run x", "error 1"}, {"run -1", "error 1"}, {"run 1048577", "error 1"}, {"run 1048576", "error 6"}, {"run 1 ", "error 1"},
		{"slowest", "round 1"}, {"solutions", "1"}, {"rounds", "1"}, {"least", "worst 1 total 8"}, {"worst", "worst 1 total 8"}, {"certificate", "none"}, {"accept walk 0", "error 18"}, {"accept walk", "error 4"}, {"holds K(1, given(0))", "10 of 16"}, {"holds decided(1, 0)", "4 of 16"},
		{"holds K(2, true)", "error 2 at 2"}, {"holds K(", "error 4 at 2"}, {"complex", "vertices 10 facets 8 euler 2 components 2"}, {"betti", "2 0"}, {"symmetries", "1"}, {"machine", "states 7 symbols 3 steps 6"},
		{"declare formula f = true;", "ok"}, {"names", "c a f p"}, {"rule", "0 -1 0 0 0 -1 0 0 1 1 1 1 1 1"}, {"declare formula f = true;", "error 7 at 165"}, {"declare x", "error 4 at 165"},
		{"declare adversary b = graphs(hears(0, 1) or hears(1, 0)); problem q = c under b rounds 1;", "ok"}, {"use q", "executions 12 views 16 relevant 12"}, {"rule", "error 21"}, {"decide", "no"}, {"rule", "error 21"}, {"rounds", "error 6"}, {"optimal", "error 6"}, {"least", "error 6"}, {"solutions", "0"},
		{"betti", "1 1"}, {"complex", "vertices 12 facets 12 euler 0 components 1"}, {"symmetries", "2"}, {"accept rainbow 0 1 | 2 | 2,7 7,8 8,9", "accepted"}, {"accept rainbow 0 1 | 2 | 2,7 7,8", "error 18"},
		{"declare problem r = c under b rounds 6;", "ok"}, {"use r", "executions 2916 views 4372 relevant 2916"}, {"declare task d inputs 2 outputs 2 allow in(0) = 2; problem s = d under b rounds 0;", "ok"}, {"use s", "error 16"},
	}
	var all []string
	for _, x := range lines {
		all = append(all, x[0])
	}
	answers := console.Run(all)
	for i, x := range lines {
		want(t, x[0], answers[i], x[1])
	}
	_, text := console.Do(console.Begin(), strings.Repeat("x", api.MaxText+1))
	want(t, "long", text, "error 13")
	_, text = console.Do(console.Begin(), strings.Repeat("x", api.MaxText))
	want(t, "not long", text, "error 4")
	want(t, "nothing", console.Run(nil), "[]")
}

// P60.1: states that are not in order.
func TestConsoleOrder(t *testing.T) {
	s := console.Begin()
	for _, line := range []string{loadExample, "use p", "decide"} {
		s, _ = console.Do(s, line)
	}
	want(t, "rule", len(s.Rule.Out), 14)
	next, text := console.Do(s, "nothing")
	want(t, "kept", all(next, text), all(s, "error 4"))
	bad := s
	bad.Rule = api.Rule{Out: []int{5}}
	next, _ = console.Do(bad, "help")
	want(t, "rule", all(next.Problem, len(next.Rule.Out)), "[0 0]")
	bad.Problem = 1
	next, text = console.Do(bad, "decide")
	want(t, "problem", all(next.Problem, text), "[-1 error 21]")
	bad.Problem = 7
	next, text = console.Do(bad, "decide")
	want(t, "problem", all(next.Problem, len(next.Rule.Out), next.Loaded, text), "[-1 0 true error 21]")
	bad.Loaded = false
	next, text = console.Do(bad, "names")
	want(t, "loaded", all(next, text), all(console.Begin(), "error 21"))
	bad = s
	bad.Program.N = 9
	next, text = console.Do(bad, "names")
	want(t, "program", all(next, text), all(console.Begin(), "error 21"))
	bad = s
	bad.Program.Problems = []api.ProblemDecl{{Name: "p", Rounds: 6}}
	bad.Program.Adversaries = []api.AdversaryDecl{{Name: "a", Scheme: api.Scheme{Op: api.SchemeGraphs, Cond: no}}}
	next, _ = console.Do(bad, "names")
	want(t, "system", all(next.Problem, len(next.Rule.Out), next.Loaded), "[-1 0 true]")
}

// P60.2: consequences.
func TestConsoleLaws(t *testing.T) {
	s := console.Begin()
	for _, line := range []string{loadExample, "declare adversary b = snapshot; problem q = c under b rounds 1; task l inputs 1 outputs 2 allow count p (out(p) = 1) = 1; problem r = l under b rounds 0; adversary d = crash(1); problem u = c under d rounds 1;"} {
		var text string
		s, text = console.Do(s, line)
		want(t, line, text, "ok")
	}
	_, source := console.Do(s, "source")
	again, _ := console.Do(console.Begin(), "load "+source)
	want(t, "source", again.Program, s.Program)
	for _, name := range []string{"p", "q", "r", "u"} {
		s, _ = console.Do(s, "use "+name)
		x, decided := console.Do(s, "decide")
		_, certificate := console.Do(s, "certificate")
		want(t, name, certificate == "none", decided == "yes")
		want(t, name, len(x.Rule.Out) > 0, decided == "yes")
		if certificate != "none" {
			_, text := console.Do(s, "accept "+certificate)
			want(t, certificate, text, "accepted")
		}
		for _, line := range []string{"run", "use zzz", "holds (", "load x", "declare x", "accept x"} {
			after, text := console.Do(x, line)
			want(t, line, strings.HasPrefix(text, "error"), true)
			want(t, line, after, x)
		}
	}
	verdict, _, _, _ := decide.Decide(problemOf(t, 1, "0 01, 01 1, 01 01"))
	want(t, "lossy", verdict, api.VerdictNo)
}
