package simulate

import (
	"strconv"
	"strings"

	"roundtable/api"
	"roundtable/round"
)

// part is a part of a line.
type part interface {
	text() string
}

// word is a part that is its own text.
type word string

func (w word) text() string { return string(w) }

// number is a number in decimal.
type number int

func (x number) text() string { return strconv.Itoa(int(x)) }

// numbers are numbers, each behind a blank.
type numbers []int

func (l numbers) text() string {
	var b []byte
	for _, x := range l {
		b = strconv.AppendInt(append(b, ' '), int64(x), 10)
	}
	return string(b)
}

// hexadecimal are bytes with two digits for each.
type hexadecimal string

func (h hexadecimal) text() string {
	const digits = "0123456789abcdef"
	var b []byte
	for _, c := range []byte(h) {
		b = append(b, digits[c>>4], digits[c&15])
	}
	return string(b)
}

// line appends a line of some parts.
func line(b *strings.Builder, parts ...part) {
	for _, p := range parts {
		b.WriteString(p.text())
	}
	b.WriteByte('\n')
}

// Format returns the text of a trace.
func Format(t api.Trace) (string, api.Errno) {
	if e := Check(t); e != api.OK {
		return "", e
	}
	b := &strings.Builder{}
	line(b, word("inputs"), numbers(t.Inputs))
	line(b, word("states"), numbers(t.States[0]))
	for k, r := range t.Word {
		graph, _ := round.Format(len(t.Inputs), []api.Round{r})
		line(b, word("round "), number(k+1), word(": "), word(graph))
		for _, x := range t.Messages {
			if x.Round == k {
				line(b, word("from "), number(x.From), word(" to "), number(x.To), word(": "), hexadecimal(x.Bytes))
			}
		}
		line(b, word("states"), numbers(t.States[k+1]))
	}
	for p, decision := range t.Decisions {
		if decision < 0 {
			line(b, word("process "), number(p), word(" does not decide"))
		} else {
			line(b, word("process "), number(p), word(" decides "), number(decision), word(" at "), number(t.Times[p]))
		}
	}
	if b.Len() > api.MaxText {
		return "", api.ErrLong
	}
	return b.String(), api.OK
}
