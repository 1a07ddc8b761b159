package sql

import (
	"slices"

	"querylab/api"
	"querylab/schema"
)

// parser stands before a token of a text. It needs no kinds of tokens, because a text keeps its apostrophes and no two tokens of different kinds look alike.
type parser struct {
	text  string
	at    int
	token string // empty at the end of the text, and where no token begins
}

// wrong is what the parser panics with at the first token that does not fit: the place of that token.
type wrong struct{ at int }

// read returns the tree of a text, which has to be of this form from its beginning to its end.
func read[T any](text string, form func(*parser) T, fits func(depth int, tree T) bool) (tree T, at int, err api.Errno) {
	if len(text) > api.MaxSource {
		return tree, 0, api.ErrLimit
	}
	defer func() {
		if w, ok := recover().(wrong); ok {
			at, err = w.at, api.ErrSyntax
		}
	}()
	p := &parser{text: text}
	p.next()
	whole := form(p)
	if p.at < len(text) {
		p.stop()
	}
	if !fits(api.MaxDepth, whole) {
		return tree, 0, api.ErrDepth
	}
	return whole, 0, api.OK
}

// next goes to the token behind the present one.
func (p *parser) next() {
	p.at += len(p.token)
	p.at += len(leading(p.text[p.at:], blank))
	p.token = token(p.text[p.at:])
}

func (p *parser) stop() {
	panic(wrong{p.at})
}

// choose goes behind the present token if it is one of these, and returns its number among them, or else -1.
func (p *parser) choose(tokens ...string) int {
	i := slices.Index(tokens, p.token)
	if i >= 0 {
		p.next()
	}
	return i
}

func (p *parser) take(token string) bool {
	return p.choose(token) == 0
}

// expect goes behind these tokens, all of which have to come.
func (p *parser) expect(tokens ...string) {
	for _, t := range tokens {
		if !p.take(t) {
			p.stop()
		}
	}
}

func (p *parser) name() string {
	name := p.token
	if !schema.Name(name) {
		p.stop()
	}
	p.next()
	return name
}

// list reads one part or more, with commas between them.
func list[T any](p *parser, part func() T) []T {
	l := []T{part()}
	for p.take(",") {
		l = append(l, part())
	}
	return l
}

func bracketed[T any](p *parser, part func() T) T {
	p.expect("(")
	x := part()
	p.expect(")")
	return x
}
