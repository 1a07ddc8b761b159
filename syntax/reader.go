// Package syntax reads texts token by token: those of statements (layer 5) and of schemas (layer 6) consist of the same tokens.
package syntax

import (
	"slices"

	"querylab/api"
	"querylab/schema"
)

// Reader stands before a token of a text. It needs no kinds of tokens, because a text keeps its apostrophes and no two tokens of different kinds look alike.
type Reader struct {
	text  string
	at    int
	token string // empty at the end of the text, and where no token begins
}

// wrong is what the reader panics with at the first token that does not fit: the place of that token.
type wrong struct{ at int }

// Read returns the tree of a text, which has to be of this form from its beginning to its end. Its errors are ErrLimit and ErrSyntax, with the place that P5.1 names.
func Read[T any](text string, form func(*Reader) T) (tree T, at int, err api.Errno) {
	if len(text) > api.MaxSource {
		return tree, 0, api.ErrLimit
	}
	defer func() {
		if w, ok := recover().(wrong); ok {
			at, err = w.at, api.ErrSyntax
		}
	}()
	r := &Reader{text: text}
	r.Next()
	whole := form(r)
	if r.at < len(text) {
		r.Stop()
	}
	return whole, 0, api.OK
}

// Next goes to the token behind the present one.
func (r *Reader) Next() {
	r.at += len(r.token)
	r.at += len(leading(r.text[r.at:], blank))
	r.token = token(r.text[r.at:])
}

// Token returns the present token, or nothing where there is none.
func (r *Reader) Token() string {
	return r.token
}

// Rest returns the text from the present token on.
func (r *Reader) Rest() string {
	return r.text[r.at:]
}

// Skip goes to the token that stands so many bytes behind the beginning of the present one.
func (r *Reader) Skip(bytes int) {
	r.at += bytes
	r.token = ""
	r.Next()
}

// Stop ends the reading: the present token does not fit.
func (r *Reader) Stop() {
	panic(wrong{r.at})
}

// Choose goes behind the present token if it is one of these, and returns its number among them, or else -1.
func (r *Reader) Choose(tokens ...string) int {
	i := slices.Index(tokens, r.token)
	if i >= 0 {
		r.Next()
	}
	return i
}

// Take goes behind the present token if it is this one, and reports whether it is.
func (r *Reader) Take(token string) bool {
	return r.Choose(token) == 0
}

// Expect goes behind these tokens, all of which have to come.
func (r *Reader) Expect(tokens ...string) {
	for _, t := range tokens {
		if !r.Take(t) {
			r.Stop()
		}
	}
}

// Name goes behind a name, which has to come, and returns it.
func (r *Reader) Name() string {
	name := r.token
	if !schema.Name(name) {
		r.Stop()
	}
	r.Next()
	return name
}

// List reads one part or more, with commas between them.
func List[T any](r *Reader, part func() T) []T {
	l := []T{part()}
	for r.Take(",") {
		l = append(l, part())
	}
	return l
}

// Bracketed reads a part in brackets.
func Bracketed[T any](r *Reader, part func() T) T {
	r.Expect("(")
	x := part()
	r.Expect(")")
	return x
}
