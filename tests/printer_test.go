package tests

import (
	"strings"
	"testing"

	"roundtable/api"
	"roundtable/parser"
	"roundtable/printer"
)

// printed parses a text, and writes its tree again.
func printed(t *testing.T, src string, parse func(string) (api.Syntax, int, api.Errno), print func(api.Syntax) (string, api.Errno)) string {
	t.Helper()
	tree, at, e := parse(src)
	if e != api.OK {
		t.Fatalf("%s: error %d at %d", src, e, at)
	}
	text, e := print(tree)
	good(t, src, e)
	again, at, e := parse(text)
	want(t, "again "+text, []any{sketch(flatten(again)), at, e}, []any{sketch(flatten(tree)), 0, api.OK})
	return text
}

// P9.1: Check and Format.
func TestPrinterProgram(t *testing.T) {
	src := "processes 02;task c inputs 2 outputs 3 where(in(0)=1)allow 1 calm 2<3;adversary a=snapshot;formula f=true;problem p=c under a rounds 1;"
	want(t, "program", printed(t, src, parser.Parse, printer.Format), "processes 2;\ntask c inputs 2 outputs 3 where in(0) = 1 allow 1 calm 2 < 3;\nadversary a = snapshot;\nformula f = true;\nproblem p = c under a rounds 1;\n")
	tree, _, _ := parser.Parse(src)
	want(t, "check", printer.Check(tree), api.OK)
	number := api.Syntax{Kind: api.NodeNumber, Num: 1}
	program := func(kids ...api.Syntax) api.Syntax { return api.Syntax{Kind: api.NodeProgram, Num: 1, Kids: kids} }
	task := func(kids ...api.Syntax) api.Syntax {
		return program(api.Syntax{Kind: api.NodeTask, Text: "c", Num: 1, Kids: kids})
	}
	clause := func(kind int) api.Syntax { return api.Syntax{Kind: kind, Kids: []api.Syntax{number}} }
	name := api.Syntax{Kind: api.NodeName, Text: "x"}
	for i, bad := range []api.Syntax{
		{}, {Kind: api.NodeTask}, {Kind: api.NodeProgram, Text: "x"}, {Kind: api.NodeProgram, Num: -1}, {Kind: api.NodeProgram, Num: api.MaxNumber + 1}, program(number), task(), task(number), task(number, clause(api.NodeCalm)),
		task(number, clause(api.NodeAllow), clause(api.NodeWhere)), task(number, clause(api.NodeAllow), clause(api.NodeAdversary)), task(number, clause(api.NodeTask), clause(api.NodeAllow)), task(number, clause(api.NodeAllow), clause(api.NodeAllow)), task(name, clause(api.NodeAllow)), task(number, clause(api.NodeWhere), clause(api.NodeCalm)), task(number, api.Syntax{Kind: api.NodeAllow}), task(number, api.Syntax{Kind: api.NodeAllow, Num: 1, Kids: []api.Syntax{number}}),
		program(api.Syntax{Kind: api.NodeProblem, Text: "p", Kids: []api.Syntax{name}}), program(api.Syntax{Kind: api.NodeProblem, Text: "all", Kids: []api.Syntax{name, name}}), program(api.Syntax{Kind: api.NodeAdversary, Text: "p", Num: 1, Kids: []api.Syntax{name}}), program(api.Syntax{Kind: api.NodeFormula, Text: "p", Kids: []api.Syntax{name}}),
	} {
		if i > 0 {
			want(t, "check", printer.Check(bad), api.ErrForm)
			want(t, "format", all(printer.Format(bad)), all("", api.ErrForm))
		}
	}
	want(t, "greatest program", all(printer.Format(api.Syntax{Num: api.MaxNumber})), all("processes 1048576;\n", api.OK))
	want(t, "zero program", all(printer.Format(api.Syntax{})), all("processes 0;\n", api.OK))
	want(t, "task", all(printer.Format(task(number, clause(api.NodeAllow)))), all("processes 1;\ntask c inputs 1 outputs 1 allow 1;\n", api.OK))
	long := program()
	for range 3000 {
		long.Kids = append(long.Kids, api.Syntax{Kind: api.NodeAdversary, Text: "abc", Kids: []api.Syntax{{Kind: api.NodeCall, Text: "snapshot"}}})
	}
	want(t, "long", printer.Check(long), api.ErrLong)
	long.Kids[2999].Text = "1"
	want(t, "form first", printer.Check(long), api.ErrForm)
	deep := api.Syntax{Kind: api.NodeCall, Text: "true"}
	for range 129 {
		deep = api.Syntax{Kind: api.NodeNot, Kids: []api.Syntax{deep}}
	}
	want(t, "deep", printer.Check(program(api.Syntax{Kind: api.NodeFormula, Text: "f", Kids: []api.Syntax{deep}})), api.ErrDeep)
	want(t, "not deep", printer.Check(program(api.Syntax{Kind: api.NodeFormula, Text: "f", Kids: deep.Kids})), api.OK)
}

// P9.2: Cond, Scheme and Formula.
func TestPrinterParts(t *testing.T) {
	for src, text := range map[string]string{
		"(all p:(in(p)=0)) or (1<2 and not(x=1))": "(all p: in(p) = 0) or 1 < 2 and not x = 1",
		"(a or b) or (c or d)":                    "a or b or (c or d)",
		"(a and b) and (c and d)":                 "a and b and (c and d)",
		"(a or b) and not (c and d)":              "(a or b) and not (c and d)",
		"1-(2+3)-4":                               "1 - (2 + 3) - 4",
		"(a=b)=(not c)":                           "(a = b) = (not c)",
		"in((a=b))":                               "in((a = b))",
		"(not all p: a) and b":                    "(not all p: a) and b",
		"(a or all p: b) or c":                    "(a or all p: b) or c",
		"((a or (all p: b))) and all q: c or d":   "(a or all p: b) and all q: c or d",
		"a and (all p: b) and c":                  "(a and all p: b) and c",
		"count p(a or b)+1":                       "count p (a or b) + 1",
		"not (a or all p: b) and c":               "not (a or all p: b) and c",
		"(a and not all p: b) or c":               "(a and not all p: b) or c",
		"(a and (b or all p: c)) or d":            "a and (b or all p: c) or d",
		"not (not (a))":                           "not not a",
		"hears(p,q+1)":                            "hears(p, q + 1)",
		"(some p: a) = 1":                         "(some p: a) = 1",
		"all p:(all q:a)or b":                     "all p: (all q: a) or b",
	} {
		want(t, src, printed(t, src, parser.Cond, printer.Cond), text)
	}
	for src, text := range map[string]string{
		"(a or b)then 2 crash( 1 )":                 "(a or b) then 2 crash(1)",
		"(a then 1 b) then 02 (c then 3 d)":         "(a then 1 b) then 2 c then 3 d",
		"a and (b and c) or (d or snapshot)":        "a and (b and c) or (d or snapshot)",
		"graphs((hears(0,1))) and (a then 1 b)":     "graphs(hears(0, 1)) and a then 1 b",
		"a then 1 (b and c)":                        "a then 1 (b and c)",
		"((partition(1)))and((omit(2)or(send(3))))": "partition(1) and (omit(2) or send(3))",
	} {
		want(t, src, printed(t, src, parser.Scheme, printer.Scheme), text)
	}
	for src, text := range map[string]string{
		"E({0,1},true)until C(everyone,at(2))":              "E({0, 1}, true) until C(everyone, at(2))",
		"(true until true)until(true until true)":           "(true until true) until true until true",
		"not(true or true)and not(not(at(1)))":              "not (true or true) and not not at(1)",
		"D({},K(0,given(1)))":                               "D({}, K(0, given(1)))",
		"(true and true)or(true or (true until true))":      "true and true or (true or (true until true))",
		"next(true until always(true or eventually(true)))": "next(true until always(true or eventually(true)))",
	} {
		want(t, src, printed(t, src, parser.Formula, printer.Formula), text)
	}
	leaf := api.Syntax{Kind: api.NodeNumber, Num: 1}
	cycle := api.Syntax{Kind: api.NodeNot, Kids: []api.Syntax{leaf}}
	cycle.Kids[0] = cycle
	for _, bad := range []api.Syntax{
		{Kind: api.NodeName, Text: "all"}, {Kind: api.NodeNumber, Num: -1}, {Kind: api.NodeNumber, Text: "1"}, {Kind: api.NodeName, Text: "x", Num: 1}, {Kind: api.NodeNot}, {Kind: api.NodeNot, Text: "x", Kids: []api.Syntax{leaf}},
		{Kind: api.NodeBinary, Text: "then", Kids: []api.Syntax{leaf, leaf}}, {Kind: api.NodeBinary, Text: "or", Kids: []api.Syntax{leaf}}, {Kind: api.NodeBinary, Text: "or", Num: 1, Kids: []api.Syntax{leaf, leaf}}, {Kind: api.NodeCall, Text: "in"},
		{Kind: api.NodeQuantor, Text: "all", Kids: []api.Syntax{leaf, leaf}}, {Kind: api.NodeQuantor, Text: "each", Kids: []api.Syntax{{Kind: api.NodeName, Text: "p"}, leaf}}, {Kind: 99}, {Kind: -1}, {Kind: api.NodeSet}, cycle,
	} {
		want(t, "cond", all(printer.Cond(bad)), all("", api.ErrForm))
		want(t, "scheme", all(printer.Scheme(bad)), all("", api.ErrForm))
		want(t, "formula", all(printer.Formula(bad)), all("", api.ErrForm))
	}
	for _, set := range []api.Syntax{
		{Kind: api.NodeSet, Num: 1}, {Kind: api.NodeSet, Text: "x"}, {Kind: api.NodeSet, Text: "everyone", Kids: []api.Syntax{leaf}}, {Kind: api.NodeSet, Kids: []api.Syntax{{Kind: api.NodeName, Text: "x"}}}, {Kind: api.NodeSet, Kids: []api.Syntax{{Kind: api.NodeNumber, Num: -1}}}, leaf, {},
	} {
		want(t, "set", all(printer.Formula(api.Syntax{Kind: api.NodeCall, Text: "E", Kids: []api.Syntax{set, {Kind: api.NodeCall, Text: "true"}}})), all("", api.ErrForm))
	}
	sum := leaf
	for range 20000 {
		sum = api.Syntax{Kind: api.NodeBinary, Text: "+", Kids: []api.Syntax{sum, leaf}}
	}
	want(t, "long", all(printer.Cond(sum)), all("", api.ErrLong))
	ref := api.Syntax{Kind: api.NodeName, Text: "a"}
	deep := ref
	for range 129 {
		deep = api.Syntax{Kind: api.NodeBinary, Text: "then", Kids: []api.Syntax{ref, deep}}
	}
	want(t, "deep", all(printer.Scheme(deep)), all("", api.ErrDeep))
}

// P9.3: consequences (that the text has the tree is checked by printed).
func TestPrinterLaws(t *testing.T) {
	for _, src := range []string{"(a or all p: b) and (c or d) = (e and not f) - (g - h)", "not (a and (b or (all p: c) and d))", "in(1 + (2 - 3)) != count q ((q = 1) = 2)"} {
		tree, _, e := parser.Cond(src)
		good(t, src, e)
		text, _ := printer.Cond(tree)
		want(t, "fixed", printed(t, text, parser.Cond, printer.Cond), text)
		for i := range text {
			if text[i] != '(' || i > 0 && text[i-1] != ' ' && text[i-1] != '(' || strings.HasSuffix(text[:i], "q ") {
				continue
			}
			end := i + closing(text[i:])
			less, _, e := parser.Cond(text[:i] + text[i+1:end] + text[end+1:])
			want(t, "needed", e != api.OK || sketch(flatten(less)) != sketch(flatten(tree)), true)
		}
	}
}

// closing returns the offset of the parenthesis that closes the first one.
func closing(s string) int {
	depth := 0
	for i := range s {
		switch s[i] {
		case '(':
			depth++
		case ')':
			depth--
		}
		if depth == 0 {
			return i
		}
	}
	return len(s) - 1
}
