package region

import (
	"math"
	"reflect"
	"slices"
	"strings"
	"testing"

	"querylab/api"
)

func sameRegion(a, b api.Region) bool {
	return slices.Equal(a.Truth, b.Truth) && slices.Equal(a.Parents, b.Parents) && slices.Equal(a.Sample, b.Sample)
}

func checkRegions(t *testing.T, name string, s api.Schema, table int, l []api.Atom, parents [][]api.Region, want ...api.Region) {
	t.Helper()
	got, err := Regions(s, table, l, parents)
	if err != api.OK || !slices.EqualFunc(got, want, sameRegion) {
		t.Errorf("%s: %v, %d, and not %v", name, got, err, want)
	}
}

// shopAtoms has atoms of all tables of the shop.
func shopAtoms() [][]api.Atom {
	return [][]api.Atom{
		{atom(0, api.OpLt, num(5)), atom(2, api.OpColumn, null), atom(5, api.OpEq, text("x"))},
		{atom(0, api.OpGe, num(18))},
		{atom(1, api.OpEq, text("Ulm")), atom(1, api.OpIsNull, null)},
	}
}

// checkedShop is the shop with checks: an order is paid or its amount less than 5, and the name of a city has less than 4 bytes and is not 0.
func checkedShop() api.Schema {
	s := shop()
	s.Tables[orders].Checks = []api.Expr{op(api.OpOr, col(2), op(api.OpLt, col(0), lit(5)))}
	s.Tables[cities].Checks = []api.Expr{op(api.OpLt, op(api.OpLength, col(1)), lit(4)), op(api.OpNot, op(api.OpEq, col(1), api.Expr{Op: api.OpText, Text: "0"}))}
	return s
}

func TestRegions(t *testing.T) {
	s, atoms := shop(), shopAtoms()
	checkRegions(t, "cities", s, cities, atoms[cities], nil,
		api.Region{Truth: []int{1, 0}, Sample: row{num(0), text("Ulm"), no}},
		api.Region{Truth: []int{0, 0}, Sample: row{num(0), text("0"), no}},
		api.Region{Truth: []int{2, 1}, Sample: row{num(0), null, no}})
	checkRegions(t, "cities without atoms", s, cities, nil, [][]api.Region{}, api.Region{Sample: row{num(0), text("0"), no}})
	checkRegions(t, "customers of two", s, customers, atoms[customers], [][]api.Region{make([]api.Region, 2)},
		api.Region{Truth: []int{0}, Parents: []int{0}, Sample: row{num(-most), num(0), num(0)}},
		api.Region{Truth: []int{0}, Parents: []int{1}, Sample: row{num(-most), num(0), num(0)}},
		api.Region{Truth: []int{1}, Parents: []int{0}, Sample: row{num(18), num(0), num(0)}},
		api.Region{Truth: []int{1}, Parents: []int{1}, Sample: row{num(18), num(0), num(0)}})
	checkRegions(t, "customers of none", s, customers, atoms[customers], [][]api.Region{nil})

	var want []api.Region
	for i, amount := range []api.Value{num(-most), num(5), null} {
		for k, paid := range []api.Value{no, yes, null} {
			for n, note := range []api.Value{text("x"), text("0")} {
				for p := range 6 {
					want = append(want, api.Region{Truth: []int{[]int{1, 0, 2}[i], k, 1 - n}, Parents: []int{p / 3, p % 3}, Sample: row{amount, num(0), paid, num(0), num(0), note}})
				}
			}
		}
	}
	checkRegions(t, "orders", s, orders, atoms[orders], [][]api.Region{make([]api.Region, 2), make([]api.Region, 3)}, want...)
}

func TestRegionsAndChecks(t *testing.T) {
	s, atoms := checkedShop(), shopAtoms()
	// of the amounts less than 5, 5 and null: the second one has to be paid, and unknown is not false
	var want []api.Region
	for _, r := range []api.Region{
		{Truth: []int{1, 0}, Sample: row{num(-most), num(0), no, num(0), num(0), text("0")}},
		{Truth: []int{1, 1}, Sample: row{num(-most), num(0), yes, num(0), num(0), text("0")}},
		{Truth: []int{1, 2}, Sample: row{num(-most), num(0), null, num(0), num(0), text("0")}},
		{Truth: []int{0, 1}, Sample: row{num(5), num(0), yes, num(0), num(0), text("0")}},
		{Truth: []int{0, 2}, Sample: row{num(5), num(0), null, num(0), num(0), text("0")}},
		{Truth: []int{2, 0}, Sample: row{null, num(0), no, num(0), num(0), text("0")}},
		{Truth: []int{2, 1}, Sample: row{null, num(0), yes, num(0), num(0), text("0")}},
		{Truth: []int{2, 2}, Sample: row{null, num(0), null, num(0), num(0), text("0")}},
	} {
		r.Parents = []int{0, 0}
		want = append(want, r)
	}
	one := []api.Region{{Truth: []int{7}, Parents: []int{8, 9}, Sample: row{yes}}}
	checkRegions(t, "orders", s, orders, atoms[orders][:2], [][]api.Region{one, one}, want...)
	// each of several checks counts, and only the sample is looked at: other texts would do
	checkRegions(t, "cities", s, cities, atoms[cities], nil,
		api.Region{Truth: []int{1, 0}, Sample: row{num(0), text("Ulm"), no}},
		api.Region{Truth: []int{2, 1}, Sample: row{num(0), null, no}})
	checkRegions(t, "long name", s, cities, []api.Atom{atom(1, api.OpEq, text("Bonn")), atom(1, api.OpIsNull, null), atom(2, api.OpColumn, null)}, nil,
		api.Region{Truth: []int{2, 1, 0}, Sample: row{num(0), null, no}},
		api.Region{Truth: []int{2, 1, 1}, Sample: row{num(0), null, yes}})
	checkRegions(t, "no region", s, cities, nil, nil)
}

func TestRegionsOfInvalidArguments(t *testing.T) {
	s, atoms := shop(), shopAtoms()
	unique := shop()
	unique.Tables[orders].Uniques = [][]int{{0}}
	l := atoms[orders]
	two := [][]api.Region{make([]api.Region, 1), make([]api.Region, 1)}
	many := [][]api.Region{make([]api.Region, 5000), make([]api.Region, 5000)}
	for name, c := range map[string]struct {
		s       api.Schema
		table   int
		l       []api.Atom
		parents [][]api.Region
	}{
		"not plain":             {unique, cities, atoms[cities], nil},
		"not plain, too many":   {unique, orders, l, many},
		"no table":              {s, 3, nil, nil},
		"negative table":        {s, -1, nil, nil},
		"least table":           {s, math.MinInt, nil, nil},
		"nothing":               {api.Schema{}, 0, nil, nil},
		"descending":            {s, orders, []api.Atom{l[0], l[2], l[1]}, two},
		"twice":                 {s, orders, []api.Atom{l[0], l[0]}, two},
		"twice at the end":      {s, orders, []api.Atom{l[0], l[1], l[1]}, two},
		"descending constants":  {s, orders, []api.Atom{atom(0, api.OpLt, num(6)), atom(0, api.OpLt, num(5))}, two},
		"descending operations": {s, orders, []api.Atom{atom(0, api.OpLe, num(5)), atom(0, api.OpLt, num(6))}, two},
		"key":                   {s, orders, []api.Atom{atom(3, api.OpEq, num(1))}, two},
		"foreign key":           {s, orders, []api.Atom{l[0], atom(1, api.OpIsNull, null), l[1]}, two},
		"wrong type":            {s, orders, []api.Atom{atom(0, api.OpEq, text("x"))}, two},
		"not there":             {s, orders, append(slices.Clone(l), atom(6, api.OpIsNull, null)), two},
		"no parents":            {s, orders, l, nil},
		"too few parents":       {s, orders, l, two[:1]},
		"too many parents":      {s, orders, l, append(two, nil)},
		"parents of none":       {s, cities, nil, two[:1]},
		"invalid, too many":     {s, orders, []api.Atom{l[1], l[0]}, many},
	} {
		if got, err := Regions(c.s, c.table, c.l, c.parents); err != api.ErrInvalid || len(got) > 0 {
			t.Errorf("%s: %v, %d", name, got, err)
		}
	}
}

// cells has one table with four free columns, of which the last one is a Bool that is not to be false.
func cells() api.Schema {
	c := api.Column{Type: api.Int, Nullable: true}
	t := api.Table{Name: "t", Primary: []int{2}, Checks: []api.Expr{col(4)}}
	for _, name := range strings.Split("abcd", "") {
		c.Name = name
		t.Columns = append(t.Columns, c)
	}
	t.Columns[2].Nullable = false
	t.Columns = append(t.Columns, api.Column{Name: "e", Type: api.Bool})
	return api.Schema{Tables: []api.Table{t}}
}

// cellAtoms divides the first, the second and the fourth column into so many classes each, one of which is null, and the last one into two.
func cellAtoms(classes ...int) []api.Atom {
	var l []api.Atom
	for k, n := range classes {
		column := []int{0, 1, 3}[k]
		for c := range n - 2 {
			l = append(l, atom(column, api.OpEq, num(int64(2*c))))
		}
		l = append(l, atom(column, api.OpIsNull, null))
	}
	return append(l, atom(4, api.OpColumn, null))
}

func TestRegionsLimit(t *testing.T) {
	for _, c := range []struct {
		classes []int
		want    api.Errno
		regions int
	}{
		{[]int{10, 10, 10}, api.OK, 1000},
		{[]int{10, 10, 11}, api.ErrLimit, 0}, // 2200 rows, of which the check permits 1100
		{[]int{1000}, api.OK, 1000},
		{[]int{1001}, api.ErrLimit, 0},
		{[]int{2, 500}, api.OK, 1000},
		{[]int{7, 11, 13}, api.ErrLimit, 0}, // 2002
		{[]int{900, 900, 900}, api.ErrLimit, 0},
	} {
		got, err := Regions(cells(), 0, cellAtoms(c.classes...), nil)
		if err != c.want || len(got) != c.regions {
			t.Errorf("%v: %d, %d", c.classes, len(got), err)
		}
	}
}

func TestRegionsLimitOfParents(t *testing.T) {
	s := shop()
	list := func(n int) []api.Region { return make([]api.Region, n) }
	var less []api.Atom
	for n := range int64(6) {
		less = append(less, atom(0, api.OpLt, num(n)))
	}
	for _, c := range []struct {
		l             []api.Atom
		first, second int
		want          api.Errno
		regions       int
	}{
		{nil, 40, 50, api.OK, 2000}, {nil, 1, 2000, api.OK, 2000}, {nil, 2000, 1, api.OK, 2000},
		{nil, 3, 667, api.ErrLimit, 0}, {nil, 2001, 1, api.ErrLimit, 0}, {nil, 1, 2001, api.ErrLimit, 0}, {nil, 100000, 100000, api.ErrLimit, 0},
		{less[:1], 50, 10, api.OK, 1500}, {less[:1], 67, 10, api.ErrLimit, 0}, // a comparison and null
		{less[:3], 40, 10, api.OK, 2000}, {less[:4], 2000, 1, api.ErrLimit, 0},
		{nil, 0, 0, api.OK, 0}, {nil, 100000, 0, api.OK, 0}, {nil, 0, 100000, api.OK, 0}, {less, 2000, 0, api.OK, 0},
	} {
		got, err := Regions(s, orders, c.l, [][]api.Region{list(c.first), list(c.second)})
		if err != c.want || len(got) != c.regions {
			t.Errorf("%d atoms, %d, %d: %d, %d", len(c.l), c.first, c.second, len(got), err)
		}
	}
	// a check that nothing fulfils leaves no region, and the limit of the rows is looked at all the same
	s.Tables[customers].Checks = []api.Expr{{Op: api.OpBool}}
	if got, err := Regions(s, customers, nil, [][]api.Region{list(100000)}); err != api.OK || len(got) != 0 {
		t.Errorf("%d, %d", len(got), err)
	}
	var many []api.Atom
	for n := range int64(api.MaxCells) {
		many = append(many, atom(0, api.OpLt, num(n)))
	}
	for _, parents := range [][][]api.Region{{nil}, {list(1)}} {
		if got, err := Regions(s, customers, many, parents); err != api.ErrLimit || len(got) != 0 {
			t.Errorf("%d, %d", len(got), err)
		}
	}
}

// TestRegionsOfThreeLongLists has lists of parents whose combinations are too many to go through, or even to count in an int64.
func TestRegionsOfThreeLongLists(t *testing.T) {
	parent := api.Table{Name: "p", Columns: []api.Column{{Name: "id", Type: api.Int}}, Primary: []int{0}}
	child := api.Table{Name: "c", Primary: []int{0}}
	var atoms []api.Atom
	for k, name := range strings.Split("abcdefgh", "") {
		child.Columns = append(child.Columns, api.Column{Name: name, Type: api.Int, Nullable: k > 3})
		if k > 3 {
			atoms = append(atoms, atom(k, api.OpEq, num(5)), atom(k, api.OpLe, num(5)), atom(k, api.OpIsNull, null))
		} else if k > 0 {
			child.Foreigns = append(child.Foreigns, api.Foreign{Columns: []int{k}, Table: "p"})
		}
	}
	s := api.Schema{Tables: []api.Table{child, parent}}
	long := make([]api.Region, 1<<19)
	// 256 rows with these are 2^64 regions
	if got, err := Regions(s, 0, atoms, [][]api.Region{long, long, long[:1<<18]}); err != api.ErrLimit || len(got) != 0 {
		t.Errorf("%d, %d", len(got), err)
	}
	if got, err := Regions(s, 0, atoms, [][]api.Region{long, long, nil}); err != api.OK || len(got) != 0 {
		t.Errorf("%d, %d", len(got), err)
	}
	if got, err := Regions(s, 0, atoms, [][]api.Region{long[:1], long[:7], long[:1]}); err != api.OK || len(got) != 256*7 {
		t.Errorf("%d, %d", len(got), err)
	}
}

func TestRegionsHaveMemoryOfTheirOwn(t *testing.T) {
	s, atoms := shop(), shopAtoms()
	parents := func() [][]api.Region {
		return [][]api.Region{{{Truth: []int{1}, Parents: []int{0}, Sample: row{num(5), num(0), num(0)}}, {}}, {{}}}
	}
	p := parents()
	got, _ := Regions(s, orders, atoms[orders], p)
	for k := range got {
		fresh, err := Regions(s, orders, atoms[orders], p)
		if err != api.OK || !reflect.DeepEqual(p, parents()) || !reflect.DeepEqual(s, shop()) || !reflect.DeepEqual(atoms, shopAtoms()) {
			t.Fatalf("%d: changed: %v, %v, %v", k, p, s, atoms)
		}
		// what is written into one region, or behind it, is seen in no other one
		mine := fresh[k]
		_, _, _ = append(mine.Truth, 9), append(mine.Parents, 9), append(mine.Sample, yes)
		mine.Truth[0], mine.Parents[0], mine.Sample[0] = 9, 9, yes
		for n, r := range fresh {
			if n != k && !sameRegion(r, got[n]) {
				t.Fatalf("%d shares memory with %d", n, k)
			}
		}
	}
}
