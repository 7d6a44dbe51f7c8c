package resolve

import "roundtable/api"

// conditionWords are the words and signs of the operations of conditions.
func conditionWords() map[int]string {
	return map[int]string{
		api.ExprIn: "in", api.ExprOut: "out", api.ExprHears: "hears", api.ExprAdd: "+", api.ExprSub: "-", api.ExprEqual: "=", api.ExprLess: "<",
		api.ExprMost: "<=", api.ExprAnd: "and", api.ExprOr: "or", api.ExprAll: "all", api.ExprSome: "some", api.ExprCount: "count",
	}
}

// inverted returns the map from words to operations.
func inverted(words map[int]string) map[string]int {
	ops := make(map[string]int, len(words))
	for op, word := range words {
		ops[word] = op
	}
	return ops
}

// rule is a kind of schemes: its word, the number of its arguments, and the greatest number that it may have.
type rule struct {
	word string
	args int
	most int
}

var rules = []rule{
	api.SchemeRef:       {"", 0, 0},
	api.SchemeCrash:     {"crash", 0, api.MaxProcs},
	api.SchemeSend:      {"send", 0, api.MaxProcs},
	api.SchemeReceive:   {"receive", 0, api.MaxProcs},
	api.SchemeOmit:      {"omit", 0, api.MaxProcs},
	api.SchemePartition: {"partition", 0, api.MaxRounds},
	api.SchemeSnapshot:  {"snapshot", 0, 0},
	api.SchemeGraphs:    {"graphs", 0, 0},
	api.SchemeOr:        {"or", 2, 0},
	api.SchemeAnd:       {"and", 2, 0},
	api.SchemeThen:      {"then", 2, api.MaxRounds},
}

// counted reports whether a scheme has a number, beside a reference.
func counted(op int) bool {
	return op >= api.SchemeCrash && op <= api.SchemePartition || op == api.SchemeThen
}

// schemeOps is the map from words to operations of schemes.
func schemeOps() map[string]int {
	ops := map[string]int{}
	for op, r := range rules {
		ops[r.word] = op
	}
	return ops
}

// predicate is an operation of formulas: its word, the fields that it uses, and the number of its arguments. The fields are p (Proc), q (Other), v (Value), r (Value, as a number of rounds) and g (Group).
type predicate struct {
	word   string
	fields string
	args   int
}

var predicates = []predicate{
	api.FormulaTrue:        {"true", "", 0},
	api.FormulaIn:          {"input", "pv", 0},
	api.FormulaGiven:       {"given", "v", 0},
	api.FormulaHeard:       {"heard", "pq", 0},
	api.FormulaFaulty:      {"faulty", "p", 0},
	api.FormulaDecided:     {"decided", "pv", 0},
	api.FormulaAt:          {"at", "r", 0},
	api.FormulaNot:         {"not", "", 1},
	api.FormulaAnd:         {"and", "", 2},
	api.FormulaOr:          {"or", "", 2},
	api.FormulaKnows:       {"K", "p", 1},
	api.FormulaEveryone:    {"E", "g", 1},
	api.FormulaDistributed: {"D", "g", 1},
	api.FormulaCommon:      {"C", "g", 1},
	api.FormulaNext:        {"next", "", 1},
	api.FormulaAlways:      {"always", "", 1},
	api.FormulaEventually:  {"eventually", "", 1},
	api.FormulaUntil:       {"until", "", 2},
}

// formulaOps is the map from words to operations of formulas.
func formulaOps() map[string]int {
	ops := map[string]int{}
	for op, p := range predicates {
		ops[p.word] = op
	}
	return ops
}

// field returns the place of a field of a formula.
func field(f *api.Formula, letter byte) *int {
	switch letter {
	case 'p':
		return &f.Proc
	case 'q':
		return &f.Other
	case 'g':
		return &f.Group
	}
	return &f.Value
}

// most returns the greatest value of a field for n processes.
func most(letter byte, n int) int {
	switch letter {
	case 'v':
		return api.MaxValues - 1
	case 'r':
		return api.MaxRounds
	case 'g':
		return 1<<n - 1
	}
	return n - 1
}
