package tests

import (
	"fmt"
	"strings"
	"testing"

	"roundtable/api"
	"roundtable/parser"
	"roundtable/printer"
	"roundtable/resolve"
)

// condOf reads a condition.
func condOf(t *testing.T, src string) api.Expr {
	t.Helper()
	tree, _, e := parser.Cond(src)
	good(t, src, e)
	c, _, e := resolve.Cond(tree, 7)
	good(t, src, e)
	return c
}

// formulaOf reads a formula for n processes.
func formulaOf(t *testing.T, src string, n int) api.Formula {
	t.Helper()
	tree, _, e := parser.Formula(src)
	good(t, src, e)
	f, _, e := resolve.Formula(tree, n)
	good(t, src, e)
	return f
}

// programOf reads a program.
func programOf(t *testing.T, src string) api.Program {
	t.Helper()
	tree, at, e := parser.Parse(src)
	good(t, fmt.Sprint(src, " at ", at), e)
	p, at, e := resolve.Program(tree)
	good(t, fmt.Sprint(src, " at ", at), e)
	return p
}

const exampleProgram = `processes 2; task c inputs 2 outputs 2 where in(0) <= in(1) allow some p: all q: out(q) = in(p) calm all p: out(p) != 0 or in(p) = 0;
adversary a = graphs(hears(1, 0)); adversary b = a then 1 (crash(1) or a and snapshot); formula f = K(0, C(everyone, given(1))) until E({1}, at(1)); problem p = c under b rounds 1;`

// P10.1: Program, Cond, Scheme and Formula.
func TestResolveTrees(t *testing.T) {
	for src, wanted := range map[string]string{
		"all p: in(p) != 1":              fmt.Sprint(ex(api.ExprAll, ex(api.ExprNot, equal(in(variable(0)), num(1)))), 0, 0),
		"count a (hears(a, 1)) - 1 <= 2": fmt.Sprint(ex(api.ExprMost, ex(api.ExprSub, ex(api.ExprCount, ex(api.ExprHears, variable(0), num(1))), num(1)), num(2)), 0, 0),
	} {
		tree, _, _ := parser.Cond(src)
		e, at, err := resolve.Cond(tree, 7)
		want(t, src, fmt.Sprint(e, at, int(err)), wanted)
	}
	for _, x := range []struct {
		src  string
		uses int
		at   int
		e    api.Errno
	}{
		{"q = 0", 7, 0, api.ErrUnbound}, {"all q: all q: q = 0", 7, 11, api.ErrTwice}, {"in(0)", 7, 0, api.ErrType}, {"out(0) = 1", 1, 0, api.ErrUse}, {"hears(0, 1)", 3, 0, api.ErrUse}, {"1 = in(2)", 6, 4, api.ErrUse},
		{"(all p: p = 1) and p = 2", 7, 19, api.ErrUnbound}, {"all p: p", 7, 0, api.ErrType}, {"not 1", 7, 0, api.ErrType}, {"1 = 2 = 3", 7, 0, api.ErrSyntax}, {"(1 = 2) = 3", 7, 1, api.ErrType}, {"1 < 2 and (3 + (1 = 1) < x)", 7, 11, api.ErrType},
		{"count p (x = 1)", 7, 0, api.ErrType}, {"x = y and z", 7, 0, api.ErrType}, {"1 = 1" + strings.Repeat(" or 1 = 1", 40), 7, 0, api.ErrMany}, {strings.Repeat("not ", 30) + "1 = 1", 7, 0, api.ErrDeep}, {"all p: all p: p", 7, 11, api.ErrTwice},
	} {
		tree, _, err := parser.Cond(x.src)
		if err != api.OK {
			continue
		}
		e, at, err := resolve.Cond(tree, x.uses)
		want(t, x.src, all(e, at, err), all(api.Expr{}, x.at, x.e))
	}
	want(t, "form", all(resolve.Cond(api.Syntax{Kind: api.NodeName, Text: "all", At: 5}, 7)), all(api.Expr{}, 0, api.ErrForm))
	for _, x := range []struct {
		src    string
		result string
	}{
		{"crash(1) or b", "{8 0 {0 0 []} [{1 1 {0 0 []} []} {0 1 {0 0 []} []}]} 0 0"}, {"b then 2 snapshot", "{10 2 {0 0 []} [{0 1 {0 0 []} []} {6 0 {0 0 []} []}]} 0 0"},
		{"crash(9)", "{0 0 {0 0 []} []} 6 2"}, {"c", "{0 0 {0 0 []} []} 0 8"}, {"a and partition(7)", "{0 0 {0 0 []} []} 16 2"}, {"a or b then 7 c", "{0 0 {0 0 []} []} 5 2"}, {"graphs(in(0) = 1)", "{0 0 {0 0 []} []} 7 11"}, {"graphs(1) and c", "{0 0 {0 0 []} []} 7 9"},
		{"a" + strings.Repeat(" or a", 64), "{0 0 {0 0 []} []} 0 5"}, {"a" + strings.Repeat(" or a", 24), "{0 0 {0 0 []} []} 0 12"},
	} {
		tree, _, _ := parser.Scheme(x.src)
		s, at, e := resolve.Scheme(tree, []string{"a", "b", "a"})
		want(t, x.src, fmt.Sprint(s, at, int(e)), x.result)
	}
	for _, x := range []struct {
		src string
		at  int
		e   api.Errno
	}{{"at(7)", 3, api.ErrRange}, {"E({0, 0}, true)", 6, api.ErrTwice}, {"K(2, at(9))", 2, api.ErrRange}, {"E({0, 2, 0}, true)", 6, api.ErrRange}, {"input(1, 8)", 9, api.ErrRange}, {"true and heard(0, 2)", 18, api.ErrRange}, {"given(8)", 6, api.ErrRange},
		{"true" + strings.Repeat(" or true", 64), 0, api.ErrMany}, {"true" + strings.Repeat(" or true", 24), 0, api.ErrDeep}} {
		tree, _, _ := parser.Formula(x.src)
		want(t, x.src, all(resolve.Formula(tree, 2)), all(api.Formula{}, x.at, x.e))
	}
	want(t, "group", formulaOf(t, "K(1, C(everyone, input(0, 1)))", 2).Args[0].Group, 3)
	want(t, "range", all(resolve.Formula(api.Syntax{Kind: 99}, 6)), all(api.Formula{}, 0, api.ErrRange))
	want(t, "range", all(resolve.Formula(api.Syntax{Kind: 99}, 0)), all(api.Formula{}, 0, api.ErrRange))
	for _, n := range []int{1, 5} {
		want(t, "everyone", formulaOf(t, "E(everyone, true)", n).Group, 1<<n-1)
	}
	for _, x := range []struct {
		src string
		at  int
		e   api.Errno
	}{
		{"processes 0;", 0, api.ErrRange}, {" processes 6;", 1, api.ErrRange}, {"processes 2; formula f = true; adversary f = x;", 31, api.ErrTwice}, {"processes 2; task c inputs 9 outputs 9 allow x;", 13, api.ErrRange}, {"processes 2; task c inputs 0 outputs 9 allow x;", 13, api.ErrRange},
		{"processes 2; task c inputs 8 outputs 9 allow x;", 37, api.ErrRange}, {"processes 2; task c inputs 8 outputs 8 where out(0) = 1 allow x;", 45, api.ErrUse}, {"processes 2; adversary a = a;", 27, api.ErrName}, {"processes 2; problem p = c under a rounds 1;", 25, api.ErrName},
		{"processes 2; task c inputs 1 outputs 1 allow 1 = 1; problem p = c under c rounds 9;", 72, api.ErrName}, {"processes 2; task c inputs 1 outputs 1 allow 1 = 1; adversary a = snapshot; problem p = c under a rounds 7;", 76, api.ErrRange}, {"processes 2; formula f = K(2, true);", 27, api.ErrRange},
		{"processes 1;" + strings.Repeat("formula f = true;", 1025), 0, api.ErrMany},
	} {
		tree, _, e := parser.Parse(x.src)
		good(t, x.src, e)
		want(t, x.src, all(resolve.Program(tree)), all(api.Program{}, x.at, x.e))
	}
	want(t, "form", all(resolve.Program(api.Syntax{Kind: api.NodeTask})), all(api.Program{}, 0, api.ErrForm))
}

// P10.2: Check, CheckCond, CheckScheme, CheckFormula, Source, CondTree, SchemeTree and FormulaTree.
func TestResolveChecks(t *testing.T) {
	for _, x := range []struct {
		e    api.Expr
		uses int
		err  api.Errno
	}{{yes, 0, api.OK}, {api.Expr{}, 7, api.ErrType}, {ex(99), 7, api.ErrArg}, {equal(in(num(-1)), num(0)), 6, api.ErrUse}, {equal(in(num(-1)), num(0)), 1, api.ErrRange}} {
		want(t, "cond", resolve.CheckCond(x.e, x.uses), x.err)
		if x.uses == 7 {
			want(t, "tree", all(resolve.CondTree(x.e)), all(api.Syntax{}, x.err))
		}
	}
	ref := api.Scheme{}
	cycle := api.Scheme{Op: api.SchemeOr, Args: []api.Scheme{ref, ref}}
	cycle.Args[0] = cycle
	deep := ref
	for range 24 {
		deep = api.Scheme{Op: api.SchemeThen, Args: []api.Scheme{ref, deep}}
	}
	for i, x := range []struct {
		s api.Scheme
		e api.Errno
	}{
		{ref, api.OK}, {api.Scheme{Num: 1}, api.ErrName}, {api.Scheme{Num: -1}, api.ErrName}, {api.Scheme{Op: 11}, api.ErrArg}, {api.Scheme{Op: api.SchemeAnd}, api.ErrShape}, {api.Scheme{Op: api.SchemeCrash, Num: 6}, api.ErrRange},
		{api.Scheme{Op: api.SchemePartition, Num: 7}, api.ErrRange}, {api.Scheme{Op: api.SchemeSnapshot, Num: 1}, api.ErrForm}, {api.Scheme{Op: api.SchemeGraphs}, api.ErrType}, {api.Scheme{Op: api.SchemeGraphs, Cond: yes}, api.OK},
		{api.Scheme{Op: api.SchemeGraphs, Cond: equal(in(num(0)), num(0))}, api.ErrUse}, {api.Scheme{Op: api.SchemeOmit, Num: 5, Cond: yes}, api.ErrForm}, {cycle, api.ErrMany}, {deep, api.ErrDeep}, {api.Scheme{Op: api.SchemeThen, Num: -1, Args: []api.Scheme{ref, ref}}, api.ErrRange},
		{api.Scheme{Op: api.SchemeOr, Args: []api.Scheme{ref, {Op: 12}}}, api.ErrArg},
	} {
		want(t, fmt.Sprint("scheme ", i), resolve.CheckScheme(x.s, 1), x.e)
		tree, e := resolve.SchemeTree(x.s, []string{"a"})
		want(t, "tree", e, x.e)
		want(t, "tree", len(tree.Text) > 0, e == api.OK)
	}
	want(t, "names", all(resolve.SchemeTree(cycle, []string{"a", "a", "all"})), all(api.Syntax{}, api.ErrTwice))
	want(t, "names", all(resolve.SchemeTree(cycle, []string{"all", "a", "a"})), all(api.Syntax{}, api.ErrName))
	loop := api.Formula{Op: api.FormulaNot, Args: []api.Formula{{}}}
	loop.Args[0] = loop
	for i, x := range []struct {
		f api.Formula
		e api.Errno
	}{
		{api.Formula{}, api.OK}, {api.Formula{Op: 18}, api.ErrArg}, {api.Formula{Op: -1}, api.ErrArg}, {api.Formula{Op: api.FormulaNot}, api.ErrShape}, {api.Formula{Op: api.FormulaIn, Proc: 2}, api.ErrRange}, {api.Formula{Op: api.FormulaIn, Value: 8}, api.ErrRange},
		{api.Formula{Op: api.FormulaAt, Value: 6}, api.OK}, {api.Formula{Op: api.FormulaAt, Value: 7}, api.ErrRange}, {api.Formula{Op: api.FormulaGiven, Proc: 1}, api.ErrForm}, {api.Formula{Op: api.FormulaHeard, Other: 1, Group: 1}, api.ErrForm}, {api.Formula{Op: api.FormulaFaulty, Other: 1}, api.ErrForm},
		{api.Formula{Op: api.FormulaCommon, Group: 4, Args: []api.Formula{{}}}, api.ErrRange}, {api.Formula{Op: api.FormulaEveryone, Group: 3, Value: 1, Args: []api.Formula{{}}}, api.ErrForm}, {loop, api.ErrMany}, {api.Formula{Op: api.FormulaNext, Args: []api.Formula{{Op: 55}}}, api.ErrArg},
	} {
		want(t, fmt.Sprint("formula ", i), resolve.CheckFormula(x.f, 2), x.e)
		_, e := resolve.FormulaTree(x.f, 2)
		want(t, "tree", e, x.e)
	}
	want(t, "formula", resolve.CheckFormula(loop, 0), api.ErrRange)
	for n, e := range []api.Errno{api.ErrRange, api.OK, api.OK, api.OK, api.OK, api.OK, api.ErrRange} {
		want(t, "processes", resolve.CheckFormula(api.Formula{Op: api.FormulaNot, Args: []api.Formula{{}}}, n), e)
	}
	// A chain of n operators has 2 n + 1 nodes, and the depth n + 1.
	for n, e := range map[int]api.Errno{23: api.OK, 24: api.ErrDeep, 63: api.ErrDeep, 64: api.ErrMany} {
		s, f := ref, api.Formula{}
		for range n {
			s = api.Scheme{Op: api.SchemeThen, Args: []api.Scheme{ref, s}}
			f = api.Formula{Op: api.FormulaOr, Args: []api.Formula{f, {}}}
		}
		want(t, "scheme", resolve.CheckScheme(s, 1), e)
		want(t, "formula", resolve.CheckFormula(f, 1), e)
		tree, _, _ := parser.Scheme("a" + strings.Repeat(" or a", n))
		_, _, err := resolve.Scheme(tree, []string{"a"})
		want(t, "scheme", err, e)
		tree, _, _ = parser.Formula("true" + strings.Repeat(" or true", n))
		_, _, err = resolve.Formula(tree, 1)
		want(t, "formula", err, e)
	}
	// Balanced trees of 128 and 129 nodes.
	wideScheme, wideFormula, wideText := ref, api.Formula{}, "(a)"
	text2 := "(true)"
	for range 6 {
		wideScheme = api.Scheme{Op: api.SchemeOr, Args: []api.Scheme{wideScheme, wideScheme}}
		wideFormula = api.Formula{Op: api.FormulaAnd, Args: []api.Formula{wideFormula, wideFormula}}
		wideText, text2 = "("+wideText+" or "+wideText+")", "("+text2+" or "+text2+")"
	}
	want(t, "wide", resolve.CheckScheme(wideScheme, 1), api.OK)
	want(t, "wide", resolve.CheckFormula(api.Formula{Op: api.FormulaNot, Args: []api.Formula{wideFormula}}, 1), api.OK)
	want(t, "wide", resolve.CheckFormula(nestFormula(2, wideFormula), 1), api.ErrMany)
	wideTree, _, _ := parser.Formula("not " + text2)
	_, _, err := resolve.Formula(wideTree, 1)
	want(t, "wide", err, api.OK)
	wideTree, _, _ = parser.Formula("not not " + text2)
	_, _, err = resolve.Formula(wideTree, 1)
	want(t, "wide", err, api.ErrMany)
	wideTree, _, _ = parser.Scheme(wideText)
	_, _, err = resolve.Scheme(wideTree, []string{"a"})
	want(t, "wide", err, api.OK)
	p := programOf(t, exampleProgram)
	want(t, "check", resolve.Check(p), api.OK)
	for i, change := range []func(p *api.Program){
		func(p *api.Program) { p.N = 0 }, func(p *api.Program) { p.Formulas = make([]api.FormulaDecl, 1025) }, func(p *api.Program) { p.Tasks[0].Name = "K" }, func(p *api.Program) { p.Problems[0].Name = "c" }, func(p *api.Program) { p.Tasks[0].Ins = 9 },
		func(p *api.Program) { p.Tasks[0].Outs = 0 }, func(p *api.Program) { p.Tasks[0].Where = ex(99) }, func(p *api.Program) { p.Tasks[0].Allow = api.Expr{} }, func(p *api.Program) { p.Tasks[0].Calm = num(1) }, func(p *api.Program) { p.Adversaries[0].Scheme = ref },
		func(p *api.Program) { p.Formulas[0].Formula = api.Formula{Op: 77} }, func(p *api.Program) { p.Problems[0].Task = 1 }, func(p *api.Program) { p.Problems[0].Adversary = -1 }, func(p *api.Program) { p.Problems[0].Rounds = 7 },
		func(p *api.Program) { p.Problems[0].Adversary = 2 }, func(p *api.Program) { p.Problems[0].Task = -1 }, func(p *api.Program) { p.Problems[0].Rounds = -1 },
	} {
		bad := programOf(t, exampleProgram)
		change(&bad)
		wanted := []api.Errno{api.ErrRange, api.ErrMany, api.ErrName, api.ErrTwice, api.ErrRange, api.ErrRange, api.ErrArg, api.ErrType, api.ErrType, api.ErrName, api.ErrArg, api.ErrNone, api.ErrNone, api.ErrRange, api.ErrNone, api.ErrNone, api.ErrRange}[i]
		want(t, fmt.Sprint("program ", i), resolve.Check(bad), wanted)
		want(t, "source", all(resolve.Source(bad)), all(api.Syntax{}, wanted))
	}
	tree, _ := resolve.CondTree(condOf(t, "all x: in(x) != 1 or not some y: x = y"))
	text, _ := printer.Cond(tree)
	want(t, "text", text, "all p0: in(p0) != 1 or not some p1: p0 = p1")
}

// nestFormula puts negations in front of a formula.
func nestFormula(n int, f api.Formula) api.Formula {
	for range n {
		f = api.Formula{Op: api.FormulaNot, Args: []api.Formula{f}}
	}
	return f
}

// P10.2: the limits of conditions and of the numbers of tasks.
func TestResolveLimits(t *testing.T) {
	pair := "1 = 1 and 1 = 1"
	text := pair // 7 nodes
	for range 4 {
		text = "(" + text + ") and (" + text + ")"
	}
	for src, e := range map[string]api.Errno{text: api.OK, "not (" + text + ")": api.OK, "not not (" + text + ")": api.ErrMany, strings.Repeat("not ", 22) + "1 = 1": api.OK, strings.Repeat("not ", 23) + "1 = 1": api.ErrDeep} {
		tree, _, _ := parser.Cond(src)
		_, _, err := resolve.Cond(tree, 0)
		want(t, "cond", err, e)
	}
	for numbers, e := range map[string]api.Errno{"inputs 8 outputs 8": api.OK, "inputs 1 outputs 1": api.OK, "inputs 9 outputs 8": api.ErrRange, "inputs 8 outputs 0": api.ErrRange} {
		tree, _, _ := parser.Parse("processes 5; task c " + numbers + " allow 1 = 1;")
		p, _, err := resolve.Program(tree)
		want(t, numbers, err, e)
		if e == api.OK {
			want(t, numbers, resolve.Check(p), e)
		}
	}
	good := programOf(t, "processes 1; task c inputs 8 outputs 8 allow 1 = 1;")
	many := good
	for i := range 1023 {
		many.Formulas = append(many.Formulas, api.FormulaDecl{Name: fmt.Sprint("f", i)})
	}
	want(t, "declarations", resolve.Check(many), api.OK)
	many.Formulas = append(many.Formulas, api.FormulaDecl{Name: "g"})
	want(t, "declarations", resolve.Check(many), api.ErrMany)
}

// P10.3: consequences.
func TestResolveLaws(t *testing.T) {
	p := programOf(t, exampleProgram)
	tree, e := resolve.Source(p)
	good(t, "source", e)
	text, e := printer.Format(tree)
	good(t, "format", e)
	want(t, "again", programOf(t, text), p)
	var random source
	for range 300 {
		e := randomExpr(&random, api.KindBool, 6, 0)
		if resolve.CheckCond(e, 7) != api.OK {
			continue
		}
		tree, _ := resolve.CondTree(e)
		text, _ := printer.Cond(tree)
		want(t, text, condOf(t, text), e)
		want(t, "renamed", condOf(t, strings.ReplaceAll(text, "p0", "other")), e)
	}
}
