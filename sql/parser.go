package sql

import (
	"querylab/api"
	"querylab/syntax"
)

// parser reads the parts of the grammar, and ends at the first wrong token.
type parser struct{ *syntax.Reader }

// read returns the tree of a text, which has to be of this form from its beginning to its end.
func read[T any](text string, form func(parser) T, fits func(depth int, tree T) bool) (T, int, api.Errno) {
	var none T
	tree, at, err := syntax.Read(text, func(r *syntax.Reader) T { return form(parser{r}) })
	if err != api.OK {
		return none, at, err
	}
	if !fits(api.MaxDepth, tree) {
		return none, 0, api.ErrDepth
	}
	return tree, 0, api.OK
}
