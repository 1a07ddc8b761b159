package region

import (
	"math/rand/v2"
	"slices"
	"strconv"
	"testing"

	"querylab/api"
	"querylab/expression"
	"querylab/value"
)

const most = api.MaxInt

func TestClasses(t *testing.T) {
	integer, nullable := api.Column{Type: api.Int}, api.Column{Type: api.Int, Nullable: true}
	truth, unsure := api.Column{Type: api.Bool}, api.Column{Type: api.Bool, Nullable: true}
	word, phrase := api.Column{Type: api.Text}, api.Column{Type: api.Text, Nullable: true}
	is := func(o int, v api.Value) api.Atom { return atom(3, o, v) }
	missing, itself := is(api.OpIsNull, null), is(api.OpColumn, null)
	least, below := num(-most), num(-most+1)
	for k, c := range []struct {
		c    api.Column
		l    []api.Atom
		want row
	}{
		{integer, nil, row{least}},
		{nullable, nil, row{least}},
		{integer, []api.Atom{missing}, row{least}},
		{nullable, []api.Atom{missing}, row{least, null}},
		{integer, []api.Atom{is(api.OpLt, num(5))}, row{least, num(5)}},
		{nullable, []api.Atom{is(api.OpLt, num(5))}, row{least, num(5), null}},
		{integer, []api.Atom{is(api.OpLe, num(5))}, row{least, num(6)}},
		{integer, []api.Atom{is(api.OpGt, num(5))}, row{least, num(6)}},
		{integer, []api.Atom{is(api.OpGe, num(5))}, row{least, num(5)}},
		{integer, []api.Atom{is(api.OpEq, num(5))}, row{least, num(5)}},
		{integer, []api.Atom{is(api.OpNe, num(5))}, row{least, num(5)}},
		{integer, []api.Atom{is(api.OpEq, num(5)), is(api.OpNe, num(5)), is(api.OpEq, num(5))}, row{least, num(5)}},
		{integer, []api.Atom{is(api.OpEq, num(7)), is(api.OpEq, num(5))}, row{least, num(5), num(7)}},
		{integer, []api.Atom{is(api.OpGe, num(7)), is(api.OpEq, num(5)), is(api.OpLt, num(6))}, row{least, num(5), num(6), num(7)}},
		{integer, []api.Atom{is(api.OpGt, num(7)), is(api.OpLe, num(5))}, row{least, num(6), num(8)}},
		{integer, []api.Atom{is(api.OpLe, num(5)), is(api.OpLt, num(6))}, row{least, num(6)}},
		// at the ends
		{integer, []api.Atom{is(api.OpEq, least)}, row{least, below}},
		{integer, []api.Atom{is(api.OpLt, least)}, row{least}},
		{integer, []api.Atom{is(api.OpLe, least)}, row{least, below}},
		{integer, []api.Atom{is(api.OpEq, least), is(api.OpEq, below)}, row{least, below, num(-most + 2)}},
		{integer, []api.Atom{is(api.OpEq, below)}, row{least, below}},
		{integer, []api.Atom{is(api.OpLt, below), is(api.OpGt, below)}, row{least, below, num(-most + 2)}},
		{integer, []api.Atom{is(api.OpEq, num(most))}, row{least, num(most)}},
		{integer, []api.Atom{is(api.OpGt, num(most))}, row{least}},
		{integer, []api.Atom{is(api.OpGt, num(most-1))}, row{least, num(most)}},
		{nullable, []api.Atom{is(api.OpGt, num(most))}, row{least, null}},
		// truths
		{truth, nil, row{no}},
		{unsure, nil, row{no}},
		{truth, []api.Atom{itself}, row{no, yes}},
		{unsure, []api.Atom{itself}, row{no, yes, null}},
		{unsure, []api.Atom{missing}, row{no, null}},
		{truth, []api.Atom{is(api.OpEq, yes)}, row{no, yes}},
		{unsure, []api.Atom{is(api.OpNe, no)}, row{no, yes, null}},
		// texts
		{word, nil, row{text("0")}},
		{phrase, nil, row{text("0")}},
		{phrase, []api.Atom{missing}, row{text("0"), null}},
		{word, []api.Atom{is(api.OpEq, text("a"))}, row{text("a"), text("0")}},
		{phrase, []api.Atom{is(api.OpNe, text("a"))}, row{text("a"), text("0"), null}},
		{word, []api.Atom{is(api.OpEq, text("b")), is(api.OpEq, text("")), is(api.OpNe, text("b")), is(api.OpEq, text("a"))}, row{text(""), text("a"), text("b"), text("0")}},
		{word, []api.Atom{is(api.OpEq, text("0")), is(api.OpEq, text("2"))}, row{text("0"), text("2"), text("1")}},
		{word, []api.Atom{is(api.OpEq, text("00")), is(api.OpEq, text("1"))}, row{text("00"), text("1"), text("0")}},
		// others are ignored
		{integer, []api.Atom{atom(2, api.OpLt, num(5)), atom(4, api.OpLt, num(6)), is(api.OpLt, num(7))}, row{least, num(7)}},
		{integer, []api.Atom{is(api.OpEq, text("a")), is(api.OpEq, yes), is(api.OpEq, null), is(api.OpLt, num(most+1)), is(api.OpSame, num(5)), itself, is(api.OpIn, num(5)), is(0, num(5))}, row{least}},
		{nullable, []api.Atom{is(api.OpIsNull, num(5)), is(api.OpLt, yes), is(api.OpSame, null)}, row{least}},
		{word, []api.Atom{is(api.OpLt, text("a")), is(api.OpEq, num(5)), is(api.OpEq, text("'")), itself}, row{text("0")}},
		{unsure, []api.Atom{is(api.OpGe, yes), is(api.OpColumn, yes), is(api.OpEq, num(1)), is(api.OpEq, api.Value{Kind: api.Bool, Num: 2})}, row{no}},
		// no type
		{api.Column{}, []api.Atom{is(api.OpEq, null)}, nil},
		{api.Column{Type: 4, Nullable: true}, []api.Atom{missing, is(api.OpEq, num(5))}, row{null}},
	} {
		given := slices.Clone(c.l)
		if got := Classes(c.c, 3, c.l); !slices.Equal(got, c.want) || !slices.Equal(c.l, given) {
			t.Errorf("%d: %v", k, got)
		}
	}
	if got := Classes(integer, -1, []api.Atom{atom(-1, api.OpLt, num(5))}); !slices.Equal(got, row{least}) {
		t.Errorf("a column that no table has: %v", got)
	}
	if got := Classes(integer, 1<<40, []api.Atom{atom(1<<40, api.OpLt, num(5))}); !slices.Equal(got, row{least, num(5)}) {
		t.Errorf("a far column: %v", got)
	}
}

func TestClassesOfManyNumbers(t *testing.T) {
	var l []api.Atom
	var want row
	for n := range 1000 {
		v := text(strconv.Itoa(n))
		l, want = append(l, atom(0, api.OpEq, v)), append(want, v)
	}
	slices.SortFunc(want, value.Compare)
	if got := Classes(api.Column{Type: api.Text}, 0, l); !slices.Equal(got, append(want, text("1000"))) {
		t.Error(got)
	}
}

// chosen returns the values that the chapter names, from which those with the truths of an earlier one are to be left out.
func chosen(c api.Column, l []api.Atom) row {
	var constants, all row
	for _, a := range l {
		if a.Op >= api.OpEq && a.Op <= api.OpGe && !slices.Contains(constants, a.Value) {
			constants = append(constants, a.Value)
		}
	}
	slices.SortFunc(constants, value.Compare)
	switch c.Type {
	case api.Bool:
		all = row{no, yes}
	case api.Text:
		n := 0
		for slices.Contains(constants, text(strconv.Itoa(n))) {
			n++
		}
		all = append(slices.Clone(constants), text(strconv.Itoa(n)))
	case api.Int:
		if len(constants) == 0 || constants[0] != num(-most) {
			all = row{num(-most)}
		}
		for k, v := range constants {
			all = append(all, v)
			if next := num(v.Num + 1); v.Num < most && (k+1 == len(constants) || constants[k+1] != next) {
				all = append(all, next)
			}
		}
	}
	if c.Nullable {
		all = append(all, null)
	}
	return all
}

// alike reports whether two values of a column give all atoms the same truths.
func alike(column int, l []api.Atom, a, b api.Value) bool {
	truth := func(x api.Atom, v api.Value) int {
		r := make(row, column+1)
		r[column] = v
		return value.Truth(expression.Eval(Expr(x), r))
	}
	return !slices.ContainsFunc(l, func(x api.Atom) bool {
		return truth(x, a) != truth(x, b)
	})
}

// probes lists values that a row can have in a column.
func probes(c api.Column) row {
	var l row
	switch c.Type {
	case api.Int:
		l = row{num(-most), num(-most + 1), num(-most + 2), num(most), num(most - 1), num(most - 2), num(1000), num(-1000)}
		for n := range int64(12) {
			l = append(l, num(n-2))
		}
	case api.Bool:
		l = row{no, yes}
	case api.Text:
		l = row{text(""), text("0"), text("1"), text("2"), text("3"), text("a"), text("b"), text("00"), text("other")}
	}
	if c.Nullable {
		l = append(l, null)
	}
	return l
}

func TestClassesOfRandomAtoms(t *testing.T) {
	r := rand.New(rand.NewPCG(2, 13))
	for range 6000 {
		c := api.Column{Type: 1 + r.IntN(3), Nullable: r.IntN(2) == 0}
		column := r.IntN(4)
		table := api.Table{Columns: []api.Column{c, c, c, c}}
		constants := probes(c)
		var l []api.Atom
		for range r.IntN(8) {
			a := atom(column, []int{api.OpEq, api.OpNe, api.OpLt, api.OpLe, api.OpGt, api.OpGe, api.OpIsNull, api.OpColumn}[r.IntN(8)], null)
			if a.Op <= api.OpGe {
				a.Value = constants[r.IntN(len(constants))]
			}
			if Suits(table, a) {
				l = append(l, a)
			}
		}
		var want row
		for _, v := range chosen(c, l) {
			if !slices.ContainsFunc(want, func(w api.Value) bool { return alike(column, l, v, w) }) {
				want = append(want, v)
			}
		}
		got := Classes(c, column, l)
		if !slices.Equal(got, want) {
			t.Fatalf("%v of %v: %v, and not %v", l, c, got, want)
		}
		for _, v := range constants {
			n := 0
			for _, w := range got {
				if alike(column, l, v, w) {
					n++
				}
			}
			if n != 1 {
				t.Fatalf("%v of %v: %v is in %d classes of %v", l, c, v, n, got)
			}
		}
	}
}
