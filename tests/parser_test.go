package tests

import (
	"fmt"
	"strings"
	"testing"

	"roundtable/api"
	"roundtable/parser"
)

// sketch writes a tree with its offsets: kind:text:number@offset(kids).
func sketch(t api.Syntax) string {
	s := fmt.Sprint(t.Kind)
	if t.Text != "" {
		s += ":" + t.Text
	}
	if t.Num != 0 {
		s += fmt.Sprint(":", t.Num)
	}
	s += fmt.Sprint("@", t.At)
	if len(t.Kids) > 0 {
		var l []string
		for _, k := range t.Kids {
			l = append(l, sketch(k))
		}
		s += "(" + strings.Join(l, " ") + ")"
	}
	return s
}

func sketched(t api.Syntax, at int, e api.Errno) string {
	if e != api.OK {
		return fmt.Sprint("error ", int(e), " at ", at)
	}
	return sketch(t)
}

// P8.1: Parse.
func TestParserProgram(t *testing.T) {
	want(t, "empty", sketched(parser.Parse(" processes 2;")), "0:2@1")
	want(t, "task", sketched(parser.Parse("processes 2; task c inputs 3 outputs 4 where 1 allow 2 calm x;")), "0:2@0(1:c:3@13(9:4@37 2@39(9:1@45) 3@47(9:2@53) 4@55(8:x@60)))")
	want(t, "others", sketched(parser.Parse("processes 2; adversary a = snapshot; formula f = true; problem p = c under a rounds 1;")), "0:2@0(5:a@13(10:snapshot@27) 6:f@37(10:true@49) 7:p:1@55(8:c@67 8:a@75))")
	for _, x := range []struct {
		src string
		at  int
		e   api.Errno
	}{
		{"", 0, api.ErrSyntax}, {"processes", 9, api.ErrSyntax}, {"processes 2", 11, api.ErrSyntax}, {"processes x;", 10, api.ErrSyntax}, {"processes 2; task all", 18, api.ErrSyntax},
		{"processes 2; task c inputs 3 outputs 4 calm x", 39, api.ErrSyntax}, {"processes 2; task c inputs 3 outputs 4 allow 1 where 2;", 47, api.ErrSyntax}, {"processes 2; adversary a snapshot", 25, api.ErrSyntax},
		{"processes 2; problem p = c under a", 34, api.ErrSyntax}, {"processes 2; formula f = snapshot;", 25, api.ErrSyntax}, {"processes 2; x", 13, api.ErrSyntax}, {"processes 2;;", 12, api.ErrSyntax}, {"12a", 2, api.ErrSyntax},
		{"processes 2; adversary a = " + strings.Repeat("(", 129) + ")", 27 + 129, api.ErrDeep},
	} {
		want(t, x.src, sketched(parser.Parse(x.src)), sketched(api.Syntax{}, x.at, x.e))
	}
}

// P8.2: Cond, Scheme and Formula.
func TestParserParts(t *testing.T) {
	for _, x := range [][2]string{
		{"all p: in(p) = 0 or p < 2", "13:all@0(8:p@4 11:or@7(11:=@7(10:in@7(8:p@10) 9@15) 11:<@20(8:p@20 9:2@24)))"},
		{"1 or 2 and not 3 or 4", "11:or@0(11:or@0(9:1@0 11:and@5(9:2@5 12@11(9:3@15))) 9:4@20)"},
		{"1 - 2 + 3 <= (4)", "11:<=@0(11:+@0(11:-@0(9:1@0 9:2@4) 9:3@8) 9:4@14)"},
		{"(1) != count p (hears(1, 2))", "11:!=@1(9:1@1 13:count@7(8:p@13 10:hears@16(9:1@22 9:2@25)))"},
		{"not some q: out(q)", "12@0(13:some@4(8:q@9 10:out@12(8:q@16)))"},
		{"a = b = c", "error 4 at 6"}, {"in(a = b)", "error 4 at 5"}, {"1 + not 2", "error 4 at 4"}, {"all in: 1", "error 4 at 4"}, {"hears(1)", "error 4 at 7"}, {"", "error 4 at 0"}, {"crash(1)", "error 4 at 0"}, {"(1", "error 4 at 2"}, {"count p: 1", "error 4 at 7"},
		{strings.Repeat("not ", 129) + ")", "error 12 at 516"}, {strings.Repeat("not ", 128) + ")", "error 4 at 512"}, {strings.Repeat("all p: ", 129), "error 12 at 903"}, {strings.Repeat("(", 128) + "1", "error 4 at 129"}, {strings.Repeat("in(", 129), "error 12 at 387"},
	} {
		want(t, x[0], sketched(parser.Cond(x[0])), x[1])
	}
	for _, x := range [][2]string{
		{"a or b and crash(1) then 2 c", "11:or@0(8:a@0 11:and@5(8:b@5 11:then:2@11(10:crash@11(9:1@17) 8:c@27)))"},
		{"a then 1 b then 2 c", "11:then:1@0(8:a@0 11:then:2@9(8:b@9 8:c@18))"},
		{"graphs(hears(0, 1)) and (snapshot)", "11:and@0(10:graphs@0(10:hears@7(9@13 9:1@16)) 10:snapshot@25)"},
		{"a then b", "error 4 at 7"}, {"crash", "error 4 at 5"}, {"in(1)", "error 4 at 0"}, {"snapshot(", "error 4 at 8"}, {"1", "error 4 at 0"},
		{strings.Repeat("a then 1 ", 129) + "!", "error 4 at 1161"}, {strings.Repeat("a then 1 ", 129) + "or", "error 12 at 1161"},
	} {
		want(t, x[0], sketched(parser.Scheme(x[0])), x[1])
	}
	for _, x := range [][2]string{
		{"K(0, at(1)) until true", "11:until@0(10:K@0(9@2 10:at@5(9:1@8)) 10:true@18)"},
		{"true until true until not true", "11:until@0(10:true@0 11:until@11(10:true@11 12@22(10:true@26)))"},
		{"E({0, 1}, given(1)) or D({}, faulty(0)) and C(everyone, next(true))", "11:or@0(10:E@0(14@2(9@3 9:1@6) 10:given@10(9:1@16)) 11:and@23(10:D@23(14@25 10:faulty@29(9@36)) 10:C@44(14:everyone@46 10:next@56(10:true@61))))"},
		{"K(0)", "error 4 at 3"}, {"x", "error 4 at 0"}, {"E(0, true)", "error 4 at 2"}, {"E({0,}, true)", "error 4 at 5"}, {"input(1)", "error 4 at 7"}, {"true and true until", "error 4 at 19"}, {"true()", "error 4 at 4"},
		{strings.Repeat("true until ", 129), "error 12 at 1419"},
	} {
		want(t, x[0], sketched(parser.Formula(x[0])), x[1])
	}
}

// shifted subtracts from all offsets of a tree.
func shifted(t api.Syntax, by int) api.Syntax {
	t.At -= by
	kids := make([]api.Syntax, len(t.Kids))
	for i, k := range t.Kids {
		kids[i] = shifted(k, by)
	}
	t.Kids = kids
	return t
}

// ordered reports whether no node is behind its kids.
func ordered(t api.Syntax) bool {
	for _, k := range t.Kids {
		if k.At < t.At || !ordered(k) {
			return false
		}
	}
	return true
}

// P8.3: consequences.
func TestParserLaws(t *testing.T) {
	scheme := "a or crash(1) then 2 (b and graphs(all p: hears(p, 0)))"
	head := "processes 3; adversary x = "
	alone, _, e := parser.Scheme(scheme)
	good(t, "scheme", e)
	program, _, e := parser.Parse(head + scheme + ";")
	good(t, "program", e)
	want(t, "alone", sketch(shifted(program.Kids[0].Kids[0], len(head))), sketch(alone))
	want(t, "ordered", ordered(program), true)
	more, _, e := parser.Scheme("((a) or ((crash(1)) then 2 \n# x\n(b and graphs((all p: (hears((p), 0)))))))")
	good(t, "more", e)
	flat := func(t api.Syntax) string { return sketch(flatten(t)) }
	want(t, "parentheses", flat(more), flat(alone))
}

// flatten sets all offsets to 0.
func flatten(t api.Syntax) api.Syntax {
	t.At = 0
	kids := make([]api.Syntax, len(t.Kids))
	for i, k := range t.Kids {
		kids[i] = flatten(k)
	}
	t.Kids = kids
	return t
}
