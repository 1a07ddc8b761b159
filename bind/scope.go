package bind

import (
	"slices"

	"querylab/api"
	"querylab/expression"
	"querylab/naming"
)

// column is a column that a name can stand for. Its qualifier and its name may be empty.
type column struct{ qualifier, name string }

// scope is columns by their places.
type scope []column

func columnsOf(qualifier string, names []string) scope {
	var s scope
	for _, n := range names {
		s = append(s, column{qualifier, n})
	}
	return s
}

// names returns those of a table's columns.
func names(t api.Table) []string {
	var l []string
	for _, c := range t.Columns {
		l = append(l, c.Name)
	}
	return l
}

func (s scope) names() []string {
	var l []string
	for _, c := range s {
		l = append(l, c.name)
	}
	return l
}

// find returns the column that a term stands for, and whether it stands for one.
func (s scope) find(t api.Term) (int, bool, api.Errno) {
	switch t.Op {
	case api.TermAgg:
		return 0, false, api.ErrInvalid
	case api.TermName:
		return s.place(t)
	}
	return 0, false, api.OK
}

func (s scope) place(name api.Term) (int, bool, api.Errno) {
	isNamed := func(c column) bool {
		return c.name == name.Text && (name.Qualifier == "" || name.Qualifier == c.qualifier)
	}
	first := slices.IndexFunc(s, isNamed)
	if first < 0 {
		return 0, false, api.ErrName
	}
	if slices.ContainsFunc(s[first+1:], isNamed) {
		return 0, false, api.ErrDuplicate
	}
	return first, true, api.OK
}

// reference returns a term that stands for a column, whose qualifier differs from those of other columns with its name.
func (s scope) reference(place int) api.Term {
	t := api.Term{Op: api.TermName, Text: s[place].name}
	if _, _, err := s.place(t); err != api.OK {
		t.Qualifier = s[place].qualifier
	}
	return t
}

// group is the columns above a group: its keys, and then its aggregates.
type group struct {
	below scope
	keys  []api.Expr
	aggs  []api.Agg
}

// find returns the column that a term stands for, and whether it stands for one.
func (g group) find(t api.Term) (int, bool, api.Errno) {
	if t.Op == api.TermAgg {
		a, err := aggregateOf(t, g.below)
		return len(g.keys) + index(g.aggs, a, sameAgg), true, err
	}
	e, err := naming.Expr(t, g.below.find)
	if err == api.OK {
		if key := index(g.keys, e, expression.Same); key >= 0 {
			return key, true, api.OK
		}
		err = api.ErrReference
	}
	if t.Op != api.TermName { // then what matters is its Kids
		err = api.OK
	}
	return 0, false, err
}

// reference returns a term that stands for a column, or for an earlier one that is the same.
func (g group) reference(place int) api.Term {
	if place < len(g.keys) {
		return naming.Term(g.keys[place], g.below.reference)
	}
	a := g.aggs[place-len(g.keys)]
	t := api.Term{Op: api.TermAgg, Num: int64(a.Fun)}
	if a.Fun != api.AggRows {
		t.Kids = []api.Term{naming.Term(a.Arg, g.below.reference)}
	}
	return t
}

// index returns the place of the first element that is the same as this one, or -1.
func index[T any](l []T, x T, same func(a, b T) bool) int {
	return slices.IndexFunc(l, func(y T) bool { return same(x, y) })
}

func sameAgg(a, b api.Agg) bool {
	return a.Fun == b.Fun && expression.Same(a.Arg, b.Arg)
}
