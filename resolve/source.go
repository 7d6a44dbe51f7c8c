package resolve

import (
	"slices"
	"strconv"

	"roundtable/api"
	"roundtable/lexer"
)

func number(x int) api.Syntax { return api.Syntax{Kind: api.NodeNumber, Num: x} }

func name(s string) api.Syntax { return api.Syntax{Kind: api.NodeName, Text: s} }

// Source returns the tree of a program.
func Source(p api.Program) (api.Syntax, api.Errno) {
	if e := Check(p); e != api.OK {
		return api.Syntax{}, e
	}
	t := api.Syntax{Kind: api.NodeProgram, Num: p.N}
	var adversaries []string
	for _, d := range p.Tasks {
		t.Kids = append(t.Kids, taskTree(d))
	}
	for _, d := range p.Adversaries {
		t.Kids = append(t.Kids, api.Syntax{Kind: api.NodeAdversary, Text: d.Name, Kids: []api.Syntax{schemeTree(d.Scheme, adversaries)}})
		adversaries = append(adversaries, d.Name)
	}
	for _, d := range p.Formulas {
		t.Kids = append(t.Kids, api.Syntax{Kind: api.NodeFormula, Text: d.Name, Kids: []api.Syntax{formulaTree(d.Formula, p.N)}})
	}
	for _, d := range p.Problems {
		kids := []api.Syntax{name(p.Tasks[d.Task].Name), name(adversaries[d.Adversary])}
		t.Kids = append(t.Kids, api.Syntax{Kind: api.NodeProblem, Text: d.Name, Num: d.Rounds, Kids: kids})
	}
	return t, api.OK
}

func taskTree(d api.TaskDecl) api.Syntax {
	t := api.Syntax{Kind: api.NodeTask, Text: d.Name, Num: d.Ins, Kids: []api.Syntax{number(d.Outs)}}
	for i, e := range []api.Expr{d.Where, d.Allow, d.Calm} {
		if !absent(e) {
			t.Kids = append(t.Kids, api.Syntax{Kind: api.NodeWhere + i, Kids: []api.Syntax{condTree(e)}})
		}
	}
	return t
}

// CondTree returns the tree of a condition.
func CondTree(e api.Expr) (api.Syntax, api.Errno) {
	if err := CheckCond(e, api.UseIn|api.UseOut|api.UseHears); err != api.OK {
		return api.Syntax{}, err
	}
	return condTree(e), api.OK
}

// variable returns the node of the name of a variable.
func variable(i int) api.Syntax { return name("p" + strconv.Itoa(i)) }

func condTree(e api.Expr) api.Syntax {
	words := conditionWords()
	var tree func(e api.Expr, vars int) api.Syntax
	tree = func(e api.Expr, vars int) api.Syntax {
		t := api.Syntax{Kind: api.NodeBinary, Text: words[e.Op]}
		switch e.Op {
		case api.ExprConst:
			return number(e.Num)
		case api.ExprVar:
			return variable(e.Num)
		case api.ExprIn, api.ExprOut, api.ExprHears:
			t.Kind = api.NodeCall
		case api.ExprAll, api.ExprSome, api.ExprCount:
			t.Kind = api.NodeQuantor
			t.Kids = []api.Syntax{variable(vars)}
			vars++
		case api.ExprNot:
			if e.Args[0].Op == api.ExprEqual {
				e, t.Text = e.Args[0], "!="
			} else {
				t.Kind = api.NodeNot
			}
		}
		for _, a := range e.Args {
			t.Kids = append(t.Kids, tree(a, vars))
		}
		return t
	}
	return tree(e, 0)
}

// SchemeTree returns the tree of a scheme, where the adversaries have some names.
func SchemeTree(s api.Scheme, names []string) (api.Syntax, api.Errno) {
	for i, n := range names {
		if lexer.Name(n) != api.OK {
			return api.Syntax{}, api.ErrName
		}
		if slices.Contains(names[:i], n) {
			return api.Syntax{}, api.ErrTwice
		}
	}
	if e := CheckScheme(s, len(names)); e != api.OK {
		return api.Syntax{}, e
	}
	return schemeTree(s, names), api.OK
}

func schemeTree(s api.Scheme, names []string) api.Syntax {
	t := api.Syntax{Kind: api.NodeCall, Text: rules[s.Op].word}
	switch {
	case s.Op == api.SchemeRef:
		return name(names[s.Num])
	case s.Op == api.SchemeGraphs:
		t.Kids = []api.Syntax{condTree(s.Cond)}
	case len(s.Args) > 0:
		t.Kind, t.Num = api.NodeBinary, s.Num
		t.Kids = []api.Syntax{schemeTree(s.Args[0], names), schemeTree(s.Args[1], names)}
	case counted(s.Op):
		t.Kids = []api.Syntax{number(s.Num)}
	}
	return t
}

// FormulaTree returns the tree of a formula for n processes.
func FormulaTree(f api.Formula, n int) (api.Syntax, api.Errno) {
	if e := CheckFormula(f, n); e != api.OK {
		return api.Syntax{}, e
	}
	return formulaTree(f, n), api.OK
}

func formulaTree(f api.Formula, n int) api.Syntax {
	p := predicates[f.Op]
	t := api.Syntax{Kind: api.NodeCall, Text: p.word}
	switch f.Op {
	case api.FormulaNot:
		t = api.Syntax{Kind: api.NodeNot}
	case api.FormulaAnd, api.FormulaOr, api.FormulaUntil:
		t.Kind = api.NodeBinary
	}
	for i := range p.fields {
		x := *field(&f, p.fields[i])
		if p.fields[i] == 'g' {
			t.Kids = append(t.Kids, setTree(x, n))
		} else {
			t.Kids = append(t.Kids, number(x))
		}
	}
	for _, a := range f.Args {
		t.Kids = append(t.Kids, formulaTree(a, n))
	}
	return t
}

func setTree(set, n int) api.Syntax {
	if set == most('g', n) {
		return api.Syntax{Kind: api.NodeSet, Text: "everyone"}
	}
	t := api.Syntax{Kind: api.NodeSet}
	for p := range n {
		if set>>p&1 == 1 {
			t.Kids = append(t.Kids, number(p))
		}
	}
	return t
}
