package certificate

import (
	"strconv"
	"strings"

	"roundtable/api"
)

// numbers writes numbers with commas between them.
func numbers(l []int) string {
	words := make([]string, len(l))
	for i, x := range l {
		words[i] = strconv.Itoa(x)
	}
	return strings.Join(words, ",")
}

// words returns the words of the text of a certificate.
func words(c api.Certificate) []string {
	l := []string{[]string{"walk", "rainbow", "proof"}[c.Kind-api.CertificateWalk]}
	for i, x := range c.Walk {
		word := strconv.Itoa(x.Execution)
		if i > 0 {
			word += "/" + strconv.Itoa(x.Proc)
		}
		l = append(l, word)
	}
	for _, v := range c.Values {
		l = append(l, strconv.Itoa(v))
	}
	for _, level := range c.Levels {
		l = append(l, "|")
		for _, views := range level {
			l = append(l, numbers(views))
		}
	}
	for _, clause := range c.Proof {
		l = append(l, "("+numbers(clause)+")")
	}
	return l
}

// Format returns the text of a certificate.
func Format(c api.Certificate) (string, api.Errno) {
	if e := Check(c); e != api.OK {
		return "", e
	}
	text := strings.Join(words(c), " ")
	if len(text) > api.MaxText {
		return "", api.ErrLong
	}
	return text, api.OK
}

// reader collects the parts of a certificate from words. What it makes of wrong words has another text.
type reader struct {
	c api.Certificate
}

// number reads a number.
func number(word string) int {
	x, _ := strconv.Atoi(word)
	return x
}

// list reads numbers with commas between them.
func list(word string) []int {
	if word == "" {
		return nil
	}
	var l []int
	for _, part := range strings.Split(word, ",") {
		l = append(l, number(part))
	}
	return l
}

func (r *reader) link(word string) {
	first, second, ok := strings.Cut(word, "/")
	x := api.Link{Execution: number(first), Proc: -1}
	if ok {
		x.Proc = number(second)
	}
	r.c.Walk = append(r.c.Walk, x)
}

func (r *reader) views(word string) {
	last := len(r.c.Levels) - 1
	switch {
	case word == "|":
		r.c.Levels = append(r.c.Levels, nil)
	case last < 0:
		r.c.Values = append(r.c.Values, number(word))
	default:
		r.c.Levels[last] = append(r.c.Levels[last], list(word))
	}
}

func (r *reader) clause(word string) {
	r.c.Proof = append(r.c.Proof, list(strings.TrimSuffix(strings.TrimPrefix(word, "("), ")")))
}

// Parse returns the certificate that has a text.
func Parse(src string) (api.Certificate, api.Errno) {
	if len(src) > api.MaxText {
		return api.Certificate{}, api.ErrLong
	}
	all := strings.Split(src, " ")
	r := &reader{}
	part := r.link
	switch all[0] {
	case "walk":
		r.c.Kind = api.CertificateWalk
	case "rainbow":
		r.c.Kind, part = api.CertificateRainbow, r.views
	case "proof":
		r.c.Kind, part = api.CertificateProof, r.clause
	}
	for _, word := range all[1:] {
		part(word)
	}
	if text, e := Format(r.c); e != api.OK || text != src {
		return api.Certificate{}, api.ErrSyntax
	}
	return r.c, api.OK
}
