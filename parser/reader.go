package parser

import (
	"slices"
	"strconv"

	"roundtable/api"
	"roundtable/lexer"
)

// failure is the value of a panic by which an error leaves the reader.
type failure struct {
	at int
	e  api.Errno
}

// reader reads tokens one after another; depth is the number of open levels.
type reader struct {
	tokens []api.Token
	depth  int
}

func (r *reader) peek() api.Token { return r.tokens[0] }

// advance returns the next token, which is not the end, and goes on behind it.
func (r *reader) advance() api.Token {
	t := r.tokens[0]
	r.tokens = r.tokens[1:]
	return t
}

// fail reports an error at the next token.
func (r *reader) fail(e api.Errno) { panic(failure{r.peek().At, e}) }

// is reports whether the next token is one of some signs or words.
func (r *reader) is(texts ...string) bool {
	return r.peek().Kind != api.TokenEnd && slices.Contains(texts, r.peek().Text)
}

// take returns the next token, which has to be a sign or a word.
func (r *reader) take(text string) api.Token {
	if !r.is(text) {
		r.fail(api.ErrSyntax)
	}
	return r.advance()
}

func (r *reader) isName() bool {
	return r.peek().Kind == api.TokenName && !lexer.Reserved(r.peek().Text)
}

func (r *reader) name() api.Syntax {
	if !r.isName() {
		r.fail(api.ErrSyntax)
	}
	t := r.advance()
	return api.Syntax{Kind: api.NodeName, Text: t.Text, At: t.At}
}

func (r *reader) number() api.Syntax {
	if r.peek().Kind != api.TokenNumber {
		r.fail(api.ErrSyntax)
	}
	t := r.advance()
	value, _ := strconv.Atoi(t.Text) // the lexer has checked it
	return api.Syntax{Kind: api.NodeNumber, Num: value, At: t.At}
}

// level reads a construct one level deeper; the token that opens the level has been read.
func (r *reader) level(construct func() api.Syntax) api.Syntax {
	r.depth++
	if r.depth > api.MaxNodes {
		r.fail(api.ErrDeep)
	}
	t := construct()
	r.depth--
	return t
}

// inside reads a construct in parentheses.
func (r *reader) inside(construct func() api.Syntax) api.Syntax {
	r.take("(")
	t := r.level(construct)
	r.take(")")
	return t
}

// call reads a word, and its arguments in parentheses if it has some.
func (r *reader) call(args ...func() api.Syntax) api.Syntax {
	word := r.advance()
	t := api.Syntax{Kind: api.NodeCall, Text: word.Text, At: word.At}
	if len(args) == 0 {
		return t
	}
	r.inside(func() api.Syntax {
		for i, arg := range args {
			if i > 0 {
				r.take(",")
			}
			t.Kids = append(t.Kids, arg())
		}
		return t
	})
	return t
}

func binary(text string, a, b api.Syntax) api.Syntax {
	return api.Syntax{Kind: api.NodeBinary, Text: text, At: a.At, Kids: []api.Syntax{a, b}}
}

// chain reads operands with left associative operators between them.
func (r *reader) chain(operand func() api.Syntax, operators ...string) api.Syntax {
	t := operand()
	for r.is(operators...) {
		word := r.advance()
		t = binary(word.Text, t, operand())
	}
	return t
}

// negated reads not with its operand.
func (r *reader) negated(operand func() api.Syntax) api.Syntax {
	at := r.advance().At
	return api.Syntax{Kind: api.NodeNot, At: at, Kids: []api.Syntax{r.level(operand)}}
}

func (r *reader) condition() api.Syntax { return r.chain(r.conjunction, "or") }

func (r *reader) conjunction() api.Syntax { return r.chain(r.negation, "and") }

func (r *reader) negation() api.Syntax {
	switch {
	case r.is("not"):
		return r.negated(r.negation)
	case r.is("all", "some"):
		word := r.advance()
		variable := r.name()
		r.take(":")
		return quantor(word, variable, r.level(r.condition))
	}
	return r.comparison()
}

func quantor(word api.Token, variable, body api.Syntax) api.Syntax {
	return api.Syntax{Kind: api.NodeQuantor, Text: word.Text, At: word.At, Kids: []api.Syntax{variable, body}}
}

func (r *reader) comparison() api.Syntax {
	left := r.sum()
	if !r.is("=", "!=", "<", "<=") {
		return left
	}
	word := r.advance()
	return binary(word.Text, left, r.sum())
}

func (r *reader) sum() api.Syntax { return r.chain(r.unit, "+", "-") }

func (r *reader) unit() api.Syntax {
	switch {
	case r.peek().Kind == api.TokenNumber:
		return r.number()
	case r.is("("):
		return r.inside(r.condition)
	case r.is("in", "out"):
		return r.call(r.sum)
	case r.is("hears"):
		return r.call(r.sum, r.sum)
	case r.is("count"):
		word := r.advance()
		variable := r.name()
		return quantor(word, variable, r.inside(r.condition))
	}
	return r.name()
}
