package printer

import (
	"roundtable/api"
	"roundtable/lexer"
)

// The kinds of texts.
const (
	conditions = iota
	schemes
	formulas
)

// The kinds of arguments of calls.
const (
	aNumber = iota
	aSum
	aCondition
	aFormula
	aSet
)

// The levels of constructs: one stands as an operand without parentheses if its level is at least that of the place. Units have the top level.
const (
	negation = 3
	sum      = 5
	top      = 9
	// deepest is more than the depth of any tree whose text is not too long: what is deeper may contain itself.
	deepest = 4 * api.MaxText
)

// operator has its own level, and the least levels of its operands.
type operator struct{ own, left, right int }

// grammar tells for each kind of texts the operators and the arguments of calls by their words.
type grammar struct {
	operators [3]map[string]operator
	calls     [3]map[string][]int
}

func newGrammar() grammar {
	return grammar{
		operators: [3]map[string]operator{
			conditions: {
				"or": {1, 1, 2}, "and": {2, 2, negation}, "=": {4, sum, sum}, "!=": {4, sum, sum}, "<": {4, sum, sum}, "<=": {4, sum, sum},
				"+": {sum, sum, top}, "-": {sum, sum, top},
			},
			schemes:  {"or": {1, 1, 2}, "and": {2, 2, 3}, "then": {3, top, 3}},
			formulas: {"until": {1, 2, 1}, "or": {2, 2, 3}, "and": {3, 3, top}},
		},
		calls: [3]map[string][]int{
			conditions: {"in": {aSum}, "out": {aSum}, "hears": {aSum, aSum}},
			schemes: {
				"crash": {aNumber}, "send": {aNumber}, "receive": {aNumber}, "omit": {aNumber}, "partition": {aNumber},
				"snapshot": {}, "graphs": {aCondition},
			},
			formulas: {
				"true": {}, "input": {aNumber, aNumber}, "given": {aNumber}, "heard": {aNumber, aNumber}, "faulty": {aNumber},
				"decided": {aNumber, aNumber}, "at": {aNumber}, "K": {aNumber, aFormula}, "E": {aSet, aFormula}, "D": {aSet, aFormula},
				"C": {aSet, aFormula}, "next": {aFormula}, "always": {aFormula}, "eventually": {aFormula},
			},
		},
	}
}

// callWord reports whether a word has arguments in parentheses.
func (g grammar) callWord(word string) bool {
	for _, calls := range g.calls {
		if len(calls[word]) > 0 {
			return true
		}
	}
	return false
}

// level returns the level of a construct.
func (g grammar) level(kind int, t api.Syntax) int {
	switch {
	case t.Kind == api.NodeBinary:
		return g.operators[kind][t.Text].own
	case kind == conditions && (t.Kind == api.NodeNot || t.Kind == api.NodeQuantor && t.Text != "count"):
		return negation
	}
	return top
}

// notOperand returns the least level of the operand of not.
func notOperand(kind int) int {
	if kind == conditions {
		return negation
	}
	return top
}

// open reports whether the text of a condition ends with the condition of an all or some that is not in parentheses.
func (g grammar) open(t api.Syntax) bool {
	switch t.Kind {
	case api.NodeQuantor:
		return t.Text != "count"
	case api.NodeNot:
		return g.level(conditions, t.Kids[0]) >= negation && g.open(t.Kids[0])
	case api.NodeBinary:
		least := g.operators[conditions][t.Text].right
		return least <= negation && g.level(conditions, t.Kids[1]) >= least && g.open(t.Kids[1])
	}
	return false
}

func isName(text string) bool { return lexer.Name(text) == api.OK }

func isNumber(x int) bool { return x >= 0 && x <= api.MaxNumber }

// plain reports whether a node has neither a text nor a number.
func plain(t api.Syntax) bool { return t.Text == "" && t.Num == 0 }

func nameNode(t api.Syntax) bool {
	return t.Kind == api.NodeName && isName(t.Text) && t.Num == 0 && len(t.Kids) == 0
}

func numberNode(t api.Syntax) bool {
	return t.Kind == api.NodeNumber && isNumber(t.Num) && t.Text == "" && len(t.Kids) == 0
}

func setNode(t api.Syntax) bool {
	if t.Kind != api.NodeSet || t.Num != 0 || t.Text != "" && (t.Text != "everyone" || len(t.Kids) > 0) {
		return false
	}
	for _, k := range t.Kids {
		if !numberNode(k) {
			return false
		}
	}
	return true
}

// valid reports whether a tree is one of a kind of texts.
func (g grammar) valid(kind int, t api.Syntax, depth int) bool {
	if depth > deepest {
		return false
	}
	switch t.Kind {
	case api.NodeNumber:
		return kind == conditions && numberNode(t)
	case api.NodeName:
		return kind != formulas && nameNode(t)
	case api.NodeCall:
		args, ok := g.calls[kind][t.Text]
		return ok && t.Num == 0 && g.validArgs(t.Kids, args, depth+1)
	case api.NodeBinary:
		_, ok := g.operators[kind][t.Text]
		number := t.Num == 0 || t.Text == "then" && isNumber(t.Num)
		return ok && number && len(t.Kids) == 2 && g.valid(kind, t.Kids[0], depth+1) && g.valid(kind, t.Kids[1], depth+1)
	case api.NodeNot:
		return kind != schemes && plain(t) && len(t.Kids) == 1 && g.valid(kind, t.Kids[0], depth+1)
	case api.NodeQuantor:
		word := t.Text == "all" || t.Text == "some" || t.Text == "count"
		return kind == conditions && word && t.Num == 0 && len(t.Kids) == 2 && nameNode(t.Kids[0]) && g.valid(kind, t.Kids[1], depth+1)
	}
	return false
}

func (g grammar) validArgs(kids []api.Syntax, args []int, depth int) bool {
	if len(kids) != len(args) {
		return false
	}
	for i, k := range kids {
		ok := false
		switch args[i] {
		case aNumber:
			ok = numberNode(k)
		case aSet:
			ok = setNode(k)
		case aFormula:
			ok = g.valid(formulas, k, depth)
		default:
			ok = g.valid(conditions, k, depth)
		}
		if !ok {
			return false
		}
	}
	return true
}

// program reports whether a tree is that of a program.
func (g grammar) program(t api.Syntax) bool {
	if t.Kind != api.NodeProgram || t.Text != "" || !isNumber(t.Num) {
		return false
	}
	for _, k := range t.Kids {
		if !isName(k.Text) || !g.declaration(k) {
			return false
		}
	}
	return true
}

// declaration reports whether a node with a name is a declaration.
func (g grammar) declaration(t api.Syntax) bool {
	switch t.Kind {
	case api.NodeTask:
		return isNumber(t.Num) && g.task(t.Kids)
	case api.NodeAdversary:
		return t.Num == 0 && len(t.Kids) == 1 && g.valid(schemes, t.Kids[0], 0)
	case api.NodeFormula:
		return t.Num == 0 && len(t.Kids) == 1 && g.valid(formulas, t.Kids[0], 0)
	case api.NodeProblem:
		return isNumber(t.Num) && len(t.Kids) == 2 && nameNode(t.Kids[0]) && nameNode(t.Kids[1])
	}
	return false
}

// task reports whether nodes are the number of outputs and the conditions of a task, of which only the second one is needed.
func (g grammar) task(kids []api.Syntax) bool {
	if len(kids) == 0 || !numberNode(kids[0]) {
		return false
	}
	before, allowed := api.NodeTask, false
	for _, k := range kids[1:] {
		if k.Kind <= before || k.Kind > api.NodeCalm || k.Kind == api.NodeCalm && !allowed {
			return false
		}
		if !plain(k) || len(k.Kids) != 1 || !g.valid(conditions, k.Kids[0], 0) {
			return false
		}
		before, allowed = k.Kind, allowed || k.Kind == api.NodeAllow
	}
	return allowed
}
