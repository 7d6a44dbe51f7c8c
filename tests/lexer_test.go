package tests

import (
	"strings"
	"testing"

	"roundtable/api"
	"roundtable/lexer"
)

// P6.1: Scan.
func TestLexerScan(t *testing.T) {
	want(t, "scan", all(lexer.Scan("task x # one\na<=12")), "[[{0 task 0} {0 x 5} {0 a 13} {2 <= 14} {1 12 16} {3  18}] 0 0]")
	want(t, "scan", all(lexer.Scan("")), "[[{3  0}] 0 0]")
	want(t, "scan", all(lexer.Scan("\t\r # x")), "[[{3  6}] 0 0]")
	want(t, "signs", all(lexer.Scan(";,:(){}+-=< =<=!=")), "[[{2 ; 0} {2 , 1} {2 : 2} {2 ( 3} {2 ) 4} {2 { 5} {2 } 6} {2 + 7} {2 - 8} {2 = 9} {2 < 10} {2 = 12} {2 <= 13} {2 != 15} {3  17}] 0 0]")
	name := strings.Repeat("n", api.MaxName)
	for _, x := range []struct {
		src string
		at  int
		e   api.Errno
	}{
		{"12a", 2, api.ErrSyntax}, {"a !b", 2, api.ErrSyntax}, {"a 999999999999999999999999b", 26, api.ErrSyntax}, {"a 1048577 !", 2, api.ErrRange},
		{"a 99999999999999999999999999999 !", 2, api.ErrRange}, {" " + name + "n", 1, api.ErrName}, {"a\x00", 1, api.ErrSyntax}, {"a_", 1, api.ErrSyntax},
		{strings.Repeat(" ", api.MaxText+1), 0, api.ErrLong}, {"é", 0, api.ErrSyntax},
	} {
		want(t, "scan", all(lexer.Scan(x.src)), all([]int{}, x.at, x.e))
	}
	for _, src := range []string{name, "0001048576", strings.Repeat("0", 50), strings.Repeat(" ", api.MaxText)} {
		_, _, e := lexer.Scan(src)
		want(t, "scan", e, api.OK)
	}
}

// P6.2: Join, Name, Reserved, Keywords, Position, Offset and Excerpt.
func TestLexerPlaces(t *testing.T) {
	name, less, equal, one := api.Token{Text: "a"}, api.Token{Kind: 2, Text: "<"}, api.Token{Kind: 2, Text: "=", At: 99}, api.Token{Kind: 1, Text: "1"}
	want(t, "join", all(lexer.Join([]api.Token{name, less, equal, one, one, name, name, {Kind: 3}})), "[a< =1 1 a a 0]")
	want(t, "join", all(lexer.Join([]api.Token{less, less, equal, equal, {Kind: 2, Text: "!="}, equal})), "[<< ==!== 0]")
	want(t, "join", all(lexer.Join(nil)), "[ 0]")
	for _, x := range []struct {
		l []api.Token
		e api.Errno
	}{
		{[]api.Token{{Kind: 4}}, api.ErrArg}, {[]api.Token{{Kind: -1}}, api.ErrArg}, {[]api.Token{{Kind: 3, Text: "x"}, name}, api.ErrForm}, {[]api.Token{{Kind: 3}, {Kind: 9}}, api.ErrOrder},
		{[]api.Token{{Text: "1"}}, api.ErrForm}, {[]api.Token{{Kind: 1, Text: "1a"}}, api.ErrForm}, {[]api.Token{{Kind: 1, Text: "1048577"}}, api.ErrForm}, {[]api.Token{{Text: ""}}, api.ErrForm},
		{[]api.Token{{Kind: 2, Text: "!"}}, api.ErrForm}, {[]api.Token{{Text: strings.Repeat("n", 25)}}, api.ErrForm}, {make([]api.Token, api.MaxText+1), api.ErrMany},
		{[]api.Token{{Kind: 1, Text: strings.Repeat("0", api.MaxText+1)}}, api.ErrLong}, {[]api.Token{{Text: "a b"}}, api.ErrForm},
	} {
		want(t, "join", all(lexer.Join(x.l)), all("", x.e))
	}
	full := strings.Repeat("0", api.MaxText)
	text, e := lexer.Join([]api.Token{{Kind: 1, Text: full}})
	want(t, "join", all(text == full, e), "[true 0]")
	signs := make([]api.Token, api.MaxText)
	for i := range signs {
		signs[i] = api.Token{Kind: api.TokenSign, Text: ";"}
	}
	text, e = lexer.Join(signs)
	want(t, "join", all(len(text), e), all(api.MaxText, api.OK))
	want(t, "position", all(lexer.Position(full, api.MaxText)), all(1, api.MaxText+1, api.OK))
	want(t, "offset", all(lexer.Offset(full, 1, api.MaxText+1)), all(api.MaxText, api.OK))
	want(t, "name", []api.Errno{lexer.Name("all"), lexer.Name("alll"), lexer.Name("1a"), lexer.Name(""), lexer.Name("K"), lexer.Name("k9")}, "[8 0 8 8 8 0]")
	want(t, "reserved", []bool{lexer.Reserved("C"), lexer.Reserved("where"), lexer.Reserved("c"), lexer.Reserved("")}, "[true true false false]")
	want(t, "keywords", strings.Join(lexer.Keywords(), " "), "C D E K adversary all allow always and at calm count crash decided eventually everyone faulty for formula given graphs heard hears in input inputs next not omit or out outputs partition problem processes receive rounds send snapshot some task then true under until where")
	src, long := "a\n\tbc", strings.Repeat("\n", api.MaxText+1)
	want(t, "position", all(lexer.Position(src, 4)), "[2 3 0]")
	want(t, "position", all(lexer.Position(src, 1)), "[1 2 0]")
	want(t, "position", all(lexer.Position(src, 5)), "[2 4 0]")
	want(t, "position", all(lexer.Position(src, 6)), "[0 0 2]")
	want(t, "position", all(lexer.Position(src, -1)), "[0 0 2]")
	want(t, "position", all(lexer.Position(long, -1)), "[0 0 13]")
	want(t, "excerpt", all(lexer.Excerpt(src, 4)), "[\tbc\n\t ^ 0]")
	want(t, "excerpt", all(lexer.Excerpt(src, 1)), "[a\n ^ 0]")
	want(t, "excerpt", all(lexer.Excerpt(src, 9)), "[ 2]")
	want(t, "excerpt", all(lexer.Excerpt(long, 0)), "[ 13]")
	for _, x := range [][4]int{{1, 3, 0, 6}, {2, 4, 5, 0}, {2, 5, 0, 6}, {3, 1, 0, 6}, {0, 1, 0, 6}, {1, 0, 0, 6}, {1, 2, 1, 0}} {
		want(t, "offset", all(lexer.Offset(src, x[0], x[1])), x[2:])
	}
	want(t, "offset", all(lexer.Offset("a\n", 2, 1)), "[2 0]")
	want(t, "offset", all(lexer.Offset("a\n", 1, 3)), "[0 6]")
	want(t, "offset", all(lexer.Offset(long, 0, 0)), "[0 13]")
}

// P6.3: consequences.
func TestLexerLaws(t *testing.T) {
	src := "processes 2;\n# x\n\ttask c inputs 2 outputs 2 allow in(0)<=out(1)and 1< 2 or 3!=4;"
	l, _, e := lexer.Scan(src)
	good(t, "scan", e)
	text, e := lexer.Join(l)
	good(t, "join", e)
	again, _, _ := lexer.Scan(text)
	want(t, "number", len(again), len(l))
	for i := range l {
		want(t, "token", again[i].Text, l[i].Text)
		want(t, "at", strings.HasPrefix(src[l[i].At:], l[i].Text), true)
	}
	for i := range text {
		if text[i] == ' ' {
			less, _, e := lexer.Scan(text[:i] + text[i+1:])
			want(t, "blank", e != api.OK || len(less) != len(l), true)
		}
	}
	double, _, _ := lexer.Scan(src + "\n" + src)
	want(t, "both", len(double), 2*len(l)-1)
	for at := range len(src) + 1 {
		line, column, _ := lexer.Position(src, at)
		want(t, "place", all(lexer.Offset(src, line, column)), all(at, api.OK))
	}
}
