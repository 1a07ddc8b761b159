package bag

import (
	"math/rand"
	"slices"
	"strings"
	"testing"

	"querylab/api"
	"querylab/value"
)

var (
	null = api.Value{}
	yes  = api.Value{Kind: api.Bool, Num: 1}
)

func num(n int64) api.Value {
	return api.Value{Kind: api.Int, Num: n}
}

func text(s string) api.Value {
	return api.Value{Kind: api.Text, Text: s}
}

type row = []api.Value

// ints returns rows of one column.
func ints(numbers ...int64) []row {
	var rows []row
	for _, n := range numbers {
		rows = append(rows, row{num(n)})
	}
	return rows
}

// ladder lists rows in the order of value.CompareRows, no two of them the same: of several lengths and kinds, and with values that are not valid.
func ladder() []row {
	return []row{
		{},
		{{Kind: -1, Text: "z"}},
		{{Num: -1}},
		{null},
		{null, null},
		{null, null, null},
		{null, num(0)},
		{{Text: "a"}},
		{num(-1 << 63)},
		{num(-api.MaxInt)},
		{num(-1)},
		{num(0)},
		{num(0), null},
		{num(0), text("a")},
		{{Kind: api.Int, Text: "a"}},
		{num(1)},
		{num(1), num(5)},
		{num(1), num(6)},
		{num(10)},
		{num(1<<63 - 1)},
		{{Kind: api.Bool}},
		{yes},
		{yes, null, null},
		{{Kind: api.Bool, Num: 2}},
		{text("")},
		{text("B")},
		{text("a")},
		{text("a"), null},
		{text("aa")},
		{text(strings.Repeat("a", 1000))},
		{text("\xff")},
		{{Kind: api.Text, Num: 1}},
		{{Kind: 4}},
	}
}

// bagOf returns each row of the ladder as often as counts says, in any order.
func bagOf(r *rand.Rand, counts []int) []row {
	var rows []row
	for i, l := range ladder() {
		for range counts[i] {
			rows = append(rows, slices.Clone(l))
		}
	}
	r.Shuffle(len(rows), func(i, k int) { rows[i], rows[k] = rows[k], rows[i] })
	return rows
}

// listOf returns each row of the ladder as often as times says, in the order of the ladder.
func listOf(times func(i int) int) []row {
	var rows []row
	for i, l := range ladder() {
		for range times(i) {
			rows = append(rows, l)
		}
	}
	return rows
}

func randomCounts(r *rand.Rand) []int {
	counts := make([]int, len(ladder()))
	most := 1 + r.Intn(4)
	for i := range counts {
		counts[i] = max(r.Intn(2*most)-most+1, 0)
	}
	return counts
}

// equal reports whether two lists are the same row by row; a nil list and an empty one are.
func equal(a, b []row) bool {
	return slices.EqualFunc(a, b, func(x, y row) bool { return slices.Equal(x, y) })
}

func TestLadderAscends(t *testing.T) {
	l := ladder()
	for i := range l {
		for k := range i {
			if value.CompareRows(l[k], l[i]) != -1 {
				t.Fatalf("%v does not come before %v", l[k], l[i])
			}
		}
	}
}

func TestExamples(t *testing.T) {
	a, b := ints(1, 1, 2), ints(1)
	if got := Except(a, b, true); !equal(got, ints(1, 2)) {
		t.Errorf("with all: %v", got)
	}
	if got := Except(a, b, false); !equal(got, ints(2)) {
		t.Errorf("without all: %v", got)
	}
}

func TestCanonicalSortsAndKeepsAllRows(t *testing.T) {
	r := rand.New(rand.NewSource(1))
	for range 200 {
		counts := randomCounts(r)
		want := listOf(func(i int) int { return counts[i] })
		a := bagOf(r, counts)
		got := Canonical(a)
		if !equal(got, want) {
			t.Fatalf("Canonical(%v) is %v", a, got)
		}
		if again := Canonical(got); !equal(again, want) {
			t.Fatalf("Canonical of %v is %v", got, again)
		}
	}
}

func TestCountOfEachRow(t *testing.T) {
	r := rand.New(rand.NewSource(2))
	for range 100 {
		counts := randomCounts(r)
		a := bagOf(r, counts)
		for i, l := range ladder() {
			if got := Count(a, l); got != counts[i] {
				t.Fatalf("Count(%v, %v) is %d", a, l, got)
			}
		}
	}
	a := []row{{num(1)}, nil, {num(1), null}, {}, {num(1)}}
	for _, c := range []struct {
		row  row
		want int
	}{{nil, 2}, {row{}, 2}, {row{num(1)}, 2}, {row{num(1), null}, 1}, {row{null}, 0}, {row{num(2)}, 0}, {row{yes}, 0}, {row{text("1")}, 0}} {
		if got := Count(a, c.row); got != c.want {
			t.Errorf("Count of %v is %d", c.row, got)
		}
	}
	if Count(nil, nil) != 0 || Count([]row{}, row{num(1)}) != 0 {
		t.Error("an empty bag has a row")
	}
}

// operations says of each operation how often a row occurs in its result, by the words of P7.2.
var operations = []struct {
	name  string
	apply func(a, b []row) []row
	times func(m, n int) int
}{
	{"union all", func(a, b []row) []row { return Union(a, b, true) }, func(m, n int) int { return m + n }},
	{"union", func(a, b []row) []row { return Union(a, b, false) }, func(m, n int) int { return oneIf(m > 0 || n > 0) }},
	{"except all", func(a, b []row) []row { return Except(a, b, true) }, func(m, n int) int {
		if m < n {
			return 0
		}
		return m - n
	}},
	{"except", func(a, b []row) []row { return Except(a, b, false) }, func(m, n int) int { return oneIf(m > 0 && n == 0) }},
	{"intersect all", func(a, b []row) []row { return Intersect(a, b, true) }, func(m, n int) int {
		if m < n {
			return m
		}
		return n
	}},
	{"intersect", func(a, b []row) []row { return Intersect(a, b, false) }, func(m, n int) int { return oneIf(m > 0 && n > 0) }},
	{"distinct", func(a, _ []row) []row { return Distinct(a) }, func(m, _ int) int { return oneIf(m > 0) }},
}

func oneIf(holds bool) int {
	if holds {
		return 1
	}
	return 0
}

func TestOperationsOnAllSmallCounts(t *testing.T) {
	for _, o := range operations {
		for m := range 5 {
			for n := range 5 {
				// A neighbour on each side, once of a alone and once of b alone, shows whether the row's own counts are kept apart.
				a, b := append(ints(1), repeat(2, m)...), append(repeat(2, n), ints(3)...)
				want := slices.Concat(repeat(1, o.times(1, 0)), repeat(2, o.times(m, n)), repeat(3, o.times(0, 1)))
				if got := o.apply(a, b); !equal(got, want) {
					t.Errorf("%s of %d and %d: %v", o.name, m, n, got)
				}
			}
		}
	}
}

func repeat(n int64, times int) []row {
	return ints(slices.Repeat([]int64{n}, times)...)
}

func TestOperationsOnRandomBags(t *testing.T) {
	r := rand.New(rand.NewSource(3))
	for range 300 {
		m, n := randomCounts(r), randomCounts(r)
		a, b := bagOf(r, m), bagOf(r, n)
		for _, o := range operations {
			want := listOf(func(i int) int { return o.times(m[i], n[i]) })
			if got := o.apply(a, b); !equal(got, want) {
				t.Fatalf("%s of %v and %v is %v", o.name, a, b, got)
			}
		}
	}
}

func TestEmptyBags(t *testing.T) {
	two := ints(2, 1, 2)
	for _, nothing := range [][]row{nil, {}} {
		for _, o := range operations {
			if got := o.apply(nothing, nothing); len(got) != 0 {
				t.Errorf("%s of nothing is %v", o.name, got)
			}
			left := slices.Concat(repeat(1, o.times(1, 0)), repeat(2, o.times(2, 0)))
			if got := o.apply(two, nothing); !equal(got, left) {
				t.Errorf("%s of %v and nothing is %v", o.name, two, got)
			}
			right := slices.Concat(repeat(1, o.times(0, 1)), repeat(2, o.times(0, 2)))
			if got := o.apply(nothing, two); !equal(got, right) {
				t.Errorf("%s of nothing and %v is %v", o.name, two, got)
			}
		}
		if got := Canonical(nothing); len(got) != 0 {
			t.Errorf("Canonical of nothing is %v", got)
		}
	}
}

func TestNilRowsAreEmptyRows(t *testing.T) {
	a, b := []row{nil, {null}, {}}, []row{{}, {}, nil}
	for _, o := range operations {
		want := slices.Concat(slices.Repeat([]row{{}}, o.times(2, 3)), slices.Repeat([]row{{null}}, o.times(1, 0)))
		if got := o.apply(a, b); !equal(got, want) {
			t.Errorf("%s is %v", o.name, got)
		}
	}
	if !Same([]row{nil}, []row{{}}) || Same([]row{nil}, nil) || !Contains([]row{nil}, []row{{}}) || Contains(nil, []row{nil}) {
		t.Error("a nil row is not an empty row")
	}
	if got, m, n := Difference(a, b); len(got) != 0 || m != 2 || n != 3 {
		t.Errorf("the difference is %v, %d, %d", got, m, n)
	}
}

func TestComparisonsOnRandomBags(t *testing.T) {
	r := rand.New(rand.NewSource(4))
	for range 500 {
		m := randomCounts(r)
		n := slices.Clone(m)
		// Few changes, so that equal bags, contained ones and others all occur, and first differences at all places.
		for range r.Intn(3) {
			i := r.Intn(len(n))
			n[i] = max(n[i]+r.Intn(3)-1, 0)
		}
		a, b := bagOf(r, m), bagOf(r, n)
		differs := func(i int) bool { return m[i] != n[i] }
		i := slices.IndexFunc(indices(m), differs)
		if got := Same(a, b); got != (i < 0) {
			t.Fatalf("Same(%v, %v) is %v", a, b, got)
		}
		lacks := slices.ContainsFunc(indices(m), func(i int) bool { return m[i] < n[i] })
		if got := Contains(a, b); got == lacks {
			t.Fatalf("Contains(%v, %v) is %v", a, b, got)
		}
		got, x, y := Difference(a, b)
		if i < 0 && (got != nil || x != 0 || y != 0) {
			t.Fatalf("Difference(%v, %v) is %v, %d, %d", a, b, got, x, y)
		}
		if i >= 0 && (!slices.Equal(got, ladder()[i]) || x != m[i] || y != n[i]) {
			t.Fatalf("Difference(%v, %v) is %v, %d, %d", a, b, got, x, y)
		}
	}
}

func indices(counts []int) []int {
	var list []int
	for i := range counts {
		list = append(list, i)
	}
	return list
}

func TestSameAndContains(t *testing.T) {
	for _, c := range []struct {
		a, b                    []row
		same, contains, reverse bool
	}{
		{nil, nil, true, true, true},
		{nil, []row{}, true, true, true},
		{ints(1), nil, false, true, false},
		{ints(1, 2), ints(2, 1), true, true, true},
		{ints(1, 1), ints(1), false, true, false},
		{ints(1, 1, 2), ints(1, 2, 2), false, false, false},
		{ints(1, 2), ints(1, 3), false, false, false},
		{ints(3, 2, 1, 2), ints(2, 2), false, true, false},
		{[]row{{null}}, []row{{null}}, true, true, true},
		{[]row{{null}}, []row{{null, null}}, false, false, false},
		{[]row{{num(1)}}, []row{{yes}}, false, false, false},
	} {
		if Same(c.a, c.b) != c.same || Same(c.b, c.a) != c.same {
			t.Errorf("Same of %v and %v is not %v", c.a, c.b, c.same)
		}
		if Contains(c.a, c.b) != c.contains || Contains(c.b, c.a) != c.reverse {
			t.Errorf("Contains of %v and %v is not %v, or the other way round not %v", c.a, c.b, c.contains, c.reverse)
		}
	}
}

func TestDifferenceIsFirstInOrder(t *testing.T) {
	for _, c := range []struct {
		a, b []row
		row  row
		m, n int
	}{
		{nil, nil, nil, 0, 0},
		{ints(2, 1), ints(1, 2), nil, 0, 0},
		{ints(9, 5), ints(9, 3), row{num(3)}, 0, 1},
		{ints(9, 3), ints(9, 5), row{num(3)}, 1, 0},
		{ints(2, 2, 1, 2), ints(1, 2), row{num(2)}, 3, 1},
		{ints(2, 2, 1, 2), ints(2, 1, 1), row{num(1)}, 1, 2},
		{ints(7), nil, row{num(7)}, 1, 0},
		{nil, ints(7, 7), row{num(7)}, 0, 2},
		{ints(1), []row{{null}, {num(1)}}, row{null}, 0, 1},
		{[]row{{num(1), num(2)}}, ints(1), row{num(1)}, 0, 1},
	} {
		got, m, n := Difference(c.a, c.b)
		if !slices.Equal(got, c.row) || (got == nil) != (c.row == nil) || m != c.m || n != c.n {
			t.Errorf("Difference(%v, %v) is %v, %d, %d", c.a, c.b, got, m, n)
		}
	}
}
