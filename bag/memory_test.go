package bag

import (
	"math/rand"
	"reflect"
	"slices"
	"testing"

	"querylab/api"
	"querylab/value"
)

// results are the functions that return rows.
func results() map[string]func(a, b []row) []row {
	all := map[string]func(a, b []row) []row{
		"canonical": func(a, _ []row) []row { return Canonical(a) },
		"difference": func(a, b []row) []row {
			r, _, _ := Difference(a, b)
			return []row{r}
		},
	}
	for _, o := range operations {
		all[o.name] = o.apply
	}
	return all
}

// copies returns the rows in memory of their own.
func copies(rows []row) []row {
	var all []row
	for _, r := range rows {
		all = append(all, append(row{}, r...))
	}
	return all
}

// spare returns a row of three values with room behind it, which an append to a row that was not copied would write to.
func spare(n int64) row {
	long := row{num(n), null, text("a"), num(77), num(78)}
	return long[:3]
}

func TestArgumentsAreLeftAlone(t *testing.T) {
	shared := spare(2)
	a, b := []row{spare(3), shared, spare(1), shared, nil}, []row{spare(5), shared, spare(3), {}, spare(4)}
	wantA, wantB := copies(a), copies(b)
	check := func(name string) {
		if !equal(a, wantA) || !equal(b, wantB) || shared[:5][3] != num(77) {
			t.Fatalf("%s changed an argument: %v, %v", name, a, b)
		}
	}
	for name, f := range results() {
		rows := f(a, b)
		check(name)
		for i := range rows {
			for k := range rows[i] {
				rows[i][k] = num(9)
			}
			_ = append(rows[i], num(9))
			rows[i] = nil
		}
		_ = append(rows, row{num(9)})
		check(name + ", or a change of its result,")
	}
	Count(a, a[0])
	Same(a, b)
	Contains(a, b)
	check("Count, Same or Contains")
}

func TestRowsOfResultShareNoMemory(t *testing.T) {
	shared := spare(2)
	a, b := []row{shared, shared, spare(1), shared}, []row{shared, spare(7), shared}
	for name, f := range results() {
		rows := f(a, b)
		want := copies(rows)
		for i := range rows {
			for k := range rows[i] {
				rows[i][k] = num(int64(100*i + k))
				want[i][k] = num(int64(100*i + k))
			}
			_ = append(rows[i], num(9), num(9))
		}
		if !equal(rows, want) {
			t.Errorf("rows of %s share memory: %v", name, rows)
		}
	}
}

func TestResultsAreSteady(t *testing.T) {
	r := rand.New(rand.NewSource(5))
	for range 20 {
		a, b := bagOf(r, randomCounts(r)), bagOf(r, randomCounts(r))
		for name, f := range results() {
			if !reflect.DeepEqual(f(a, b), f(a, b)) {
				t.Fatalf("%s has two results", name)
			}
		}
	}
}

func TestManyRows(t *testing.T) {
	const many = 20 * api.MaxBag
	var a, b []row
	for i := range many {
		a = append(a, row{num(int64(i % 7)), num(int64(many - i))})
		b = append(b, row{num(5)})
	}
	if got := Union(a, b, true); len(got) != 2*many || Count(got, row{num(5)}) != many || !slices.IsSortedFunc(got, value.CompareRows) {
		t.Errorf("the union has %d rows", len(got))
	}
	if got := Distinct(b); !equal(got, ints(5)) {
		t.Errorf("there are %d distinct rows", len(got))
	}
	if got, m, n := Difference(b, b[1:]); !equal([]row{got}, ints(5)) || m != many || n != many-1 {
		t.Errorf("the difference is %v, %d, %d", got, m, n)
	}
	if !Contains(a, a[many/2:]) || Contains(a, b) || !Same(b, b) {
		t.Error("bags of many rows are compared wrongly")
	}
}
