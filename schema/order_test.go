package schema

import (
	"reflect"
	"slices"
	"testing"

	"querylab/api"
)

// forPermutations hands permutations of the numbers below n to a function, in lexicographic order, until it returns false.
func forPermutations(n int, f func(p []int) bool) {
	var extend func(p []int) bool
	extend = func(p []int) bool {
		if len(p) == n {
			return f(p)
		}
		for i := range n {
			if !slices.Contains(p, i) && !extend(append(p, i)) {
				return false
			}
		}
		return true
	}
	extend(nil)
}

// wantedOrder returns the lexicographically first order in which each table stands behind the ones it refers to: each place then has the least index that it may have.
func wantedOrder(refersTo [][]int) ([]int, api.Errno) {
	var found []int
	err := api.ErrCycle
	forPermutations(len(refersTo), func(p []int) bool {
		for place, i := range p {
			for _, o := range refersTo[i] {
				if !slices.Contains(p[:place], o) {
					return true
				}
			}
		}
		found, err = slices.Clone(p), api.OK
		return false
	})
	return found, err
}

// graph returns a schema of n tables: table i refers to table k if the bit i*n + k is set.
func graph(n, bits int) (api.Schema, [][]int) {
	var s api.Schema
	refersTo := make([][]int, n)
	for i := range n {
		var names []string
		for k := range n {
			if bits>>(i*n+k)&1 == 1 {
				refersTo[i] = append(refersTo[i], k)
				names = append(names, string(rune('a'+k)))
			}
		}
		s.Tables = append(s.Tables, refers(string(rune('a'+i)), names...))
	}
	return s, refersTo
}

func TestOrderOfAllSmallSchemas(t *testing.T) {
	for n := range 5 {
		for bits := range 1 << (n * n) {
			s, refersTo := graph(n, bits)
			want, wantErr := wantedOrder(refersTo)
			if got, err := Order(s); err != wantErr || !slices.Equal(got, want) {
				t.Fatalf("Order of %v is %v, %d, not %v, %d", refersTo, got, err, want, wantErr)
			}
		}
	}
}

func TestOrderOfSixTables(t *testing.T) {
	bits := 1
	for range 300 {
		bits = bits * 48271 % (1<<31 - 1) // any sequence that looks irregular
		s, refersTo := graph(6, bits&(bits<<7)&(1<<36-1))
		want, wantErr := wantedOrder(refersTo)
		if got, err := Order(s); err != wantErr || !slices.Equal(got, want) {
			t.Fatalf("Order of %v is %v, %d, not %v, %d", refersTo, got, err, want, wantErr)
		}
	}
}

func TestOrder(t *testing.T) {
	for _, c := range []struct {
		s    api.Schema
		want []int
		err  api.Errno
	}{
		{tables(refers("orders", "customers"), refers("customers")), []int{1, 0}, api.OK},
		{tables(refers("a"), refers("b"), refers("c")), []int{0, 1, 2}, api.OK},
		// what becomes possible goes before what was possible, if its index is less
		{tables(refers("a", "c"), refers("b", "d"), refers("c"), refers("d")), []int{2, 0, 3, 1}, api.OK},
		{tables(refers("a", "b"), refers("b", "c"), refers("c", "d"), refers("d")), []int{3, 2, 1, 0}, api.OK},
		{tables(refers("a", "b", "b"), refers("b")), []int{1, 0}, api.OK},
		{tables(refers("a", "a")), nil, api.ErrCycle},
		{tables(refers("a"), refers("b", "a", "b")), nil, api.ErrCycle},
		{tables(refers("z"), refers("a", "b"), refers("b", "c"), refers("c", "a")), nil, api.ErrCycle},
		// a missing table is told even if there is a circle
		{tables(refers("a", "none")), nil, api.ErrMissing},
		{tables(refers("a", "a"), refers("b", "none")), nil, api.ErrMissing},
		{tables(refers("a", "b", "none"), refers("b", "a")), nil, api.ErrMissing},
		{tables(refers("a", "A")), nil, api.ErrMissing},
		// of two tables with one name, the first one is meant
		{tables(refers("b", "a"), refers("a"), refers("a", "b")), []int{1, 0, 2}, api.OK},
		{tables(refers("b", "a"), refers("a", "b"), refers("a")), nil, api.ErrCycle},
		{tables(), nil, api.OK},
		{tables([]api.Table{}...), nil, api.OK},
	} {
		if got, err := Order(c.s); err != c.err || !slices.Equal(got, c.want) {
			t.Errorf("Order of %v is %v, %d", c.s, got, err)
		}
	}
}

func TestOrderOfManyTables(t *testing.T) {
	const many = 300
	var s api.Schema
	var want []int
	for i := range many {
		name := func(i int) string { return string([]byte{'a' + byte(i/26), 'a' + byte(i%26)}) }
		others := []string{name(i + 1), name(min(i+7, many-1))}
		if i == many-1 {
			others = nil
		}
		s.Tables = append(s.Tables, refers(name(i), others...))
		want = append(want, many-1-i)
	}
	if got, err := Order(s); err != api.OK || !slices.Equal(got, want) {
		t.Errorf("Order is %v, %d", got, err)
	}
	if err := Valid(s); err != api.ErrLimit {
		t.Errorf("Valid is %d", err)
	}
}

func TestOrderLeavesArgumentsAlone(t *testing.T) {
	fresh := func() api.Schema { return tables(refers("a", "c"), refers("b", "a", "c"), refers("c")) }
	s := fresh()
	first, _ := Order(s)
	first[0] = 9
	if again, _ := Order(s); !slices.Equal(again, []int{2, 0, 1}) || !reflect.DeepEqual(s, fresh()) {
		t.Errorf("the schema was changed: %v, %v", s, again)
	}
}
