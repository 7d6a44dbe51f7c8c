package printer

import (
	"bytes"
	"strconv"
	"strings"

	"roundtable/api"
)

// writer is a buffer that knows the last token, on which the space in front of the next one depends.
type writer struct {
	bytes.Buffer
	grammar grammar
	last    string
}

// put writes tokens.
func (w *writer) put(tokens ...string) {
	for _, token := range tokens {
		if w.spaced(token) {
			w.WriteByte(' ')
		}
		w.WriteString(token)
		w.last = token
	}
}

// spaced reports whether a space stands in front of a token.
func (w *writer) spaced(token string) bool {
	switch {
	case w.last == "" || w.last == "(" || w.last == "{":
		return false
	case strings.Contains(";,:)}", token):
		return false
	}
	return token != "(" || !w.grammar.callWord(w.last)
}

func (w *writer) number(x int) { w.put(strconv.Itoa(x)) }

// list writes n elements with commas between them.
func (w *writer) list(n int, element func(i int)) {
	for i := range n {
		if i > 0 {
			w.put(",")
		}
		element(i)
	}
}

// endLine ends the line of a declaration.
func (w *writer) endLine() {
	w.put(";")
	w.WriteByte('\n')
	w.last = ""
}

func (w *writer) program(t api.Syntax) {
	w.put("processes")
	w.number(t.Num)
	w.endLine()
	for _, k := range t.Kids {
		w.declaration(k)
		w.endLine()
	}
}

func (w *writer) declaration(t api.Syntax) {
	switch t.Kind {
	case api.NodeTask:
		w.put("task", t.Text, "inputs")
		w.number(t.Num)
		w.put("outputs")
		w.number(t.Kids[0].Num)
		for _, k := range t.Kids[1:] {
			w.put([]string{"where", "allow", "calm"}[k.Kind-api.NodeWhere])
			w.construct(conditions, k.Kids[0])
		}
	case api.NodeAdversary:
		w.put("adversary", t.Text, "=")
		w.construct(schemes, t.Kids[0])
	case api.NodeFormula:
		w.put("formula", t.Text, "=")
		w.construct(formulas, t.Kids[0])
	case api.NodeProblem:
		w.put("problem", t.Text, "=", t.Kids[0].Text, "under", t.Kids[1].Text, "rounds")
		w.number(t.Num)
	}
}

// operand writes a construct, in parentheses if its level is too low or if it is said to need them.
func (w *writer) operand(kind int, t api.Syntax, least int, enclosed bool) {
	if !enclosed && w.grammar.level(kind, t) >= least {
		w.construct(kind, t)
		return
	}
	w.put("(")
	w.construct(kind, t)
	w.put(")")
}

// construct writes a condition, a scheme or a formula.
func (w *writer) construct(kind int, t api.Syntax) {
	switch t.Kind {
	case api.NodeNumber:
		w.number(t.Num)
	case api.NodeName:
		w.put(t.Text)
	case api.NodeCall:
		w.call(kind, t)
	case api.NodeBinary:
		w.binary(kind, t)
	case api.NodeNot:
		w.put("not")
		w.operand(kind, t.Kids[0], notOperand(kind), false)
	case api.NodeQuantor:
		w.put(t.Text, t.Kids[0].Text)
		if t.Text == "count" {
			w.operand(conditions, t.Kids[1], 0, true)
			return
		}
		w.put(":")
		w.construct(conditions, t.Kids[1])
	}
}

func (w *writer) binary(kind int, t api.Syntax) {
	op := w.grammar.operators[kind][t.Text]
	// The condition of a quantifier would go on behind the operator.
	enclosed := kind == conditions && op.own <= 2 && w.grammar.open(t.Kids[0])
	w.operand(kind, t.Kids[0], op.left, enclosed)
	w.put(t.Text)
	if t.Text == "then" {
		w.number(t.Num)
	}
	w.operand(kind, t.Kids[1], op.right, false)
}

func (w *writer) call(kind int, t api.Syntax) {
	w.put(t.Text)
	if len(t.Kids) == 0 {
		return
	}
	args := w.grammar.calls[kind][t.Text]
	w.put("(")
	w.list(len(args), func(i int) {
		switch k := t.Kids[i]; args[i] {
		case aNumber:
			w.number(k.Num)
		case aSum:
			w.operand(conditions, k, sum, false)
		case aCondition:
			w.construct(conditions, k)
		case aFormula:
			w.construct(formulas, k)
		case aSet:
			w.set(k)
		}
	})
	w.put(")")
}

func (w *writer) set(t api.Syntax) {
	if t.Text != "" {
		w.put(t.Text)
		return
	}
	w.put("{")
	w.list(len(t.Kids), func(i int) { w.number(t.Kids[i].Num) })
	w.put("}")
}
