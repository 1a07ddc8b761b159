package meaning

import (
	"math/rand/v2"
	"reflect"
	"slices"
	"testing"

	"querylab/algebra"
	"querylab/api"
	"querylab/value"
)

// asked is a random question without errors, and its result by the reference.
type asked struct {
	i    api.Instance
	q    api.Query
	want []row
	err  api.Errno
}

// questions returns random queries with random instances of the shop.
func questions(seed uint64, number int) []asked {
	m := maker{rand.New(rand.NewPCG(seed, 8)), shop()}
	var l []asked
	for len(l) < number {
		q, _ := m.query(1 + m.IntN(5))
		if _, err := algebra.Type(m.schema, q); err != api.OK {
			continue
		}
		x := reference{schema: m.schema, instance: m.instance()}
		a := asked{i: x.instance, q: q, want: slices.Clone(x.result(q))}
		slices.SortFunc(a.want, value.CompareRows)
		if x.rows > api.MaxBag || x.pairs > api.MaxPairs {
			a.want, a.err = nil, api.ErrLimit
		}
		l = append(l, a)
	}
	return l
}

func TestEvalIsWhatTheChapterSays(t *testing.T) {
	operators := map[int]int{}
	for _, a := range questions(1, 9000) {
		rows, err := Eval(shop(), a.i, a.q)
		if err != a.err || !sameRows(rows, a.want) {
			t.Fatalf("%s over %v is %v, %d, and not %v, %d", algebra.Text(a.q), a.i, rows, err, a.want, a.err)
		}
		if len(rows) > 0 {
			operators[a.q.Op]++
		}
	}
	for o := api.QScan; o <= api.QGroup; o++ {
		if operators[o] < 50 {
			t.Errorf("operator %d has had %d results", o, operators[o])
		}
	}
}

func TestEvalIsCanonicalAndTyped(t *testing.T) {
	for _, a := range questions(2, 1500) {
		rows, err := Eval(shop(), a.i, a.q)
		if err != api.OK {
			continue
		}
		types, _ := algebra.Type(shop(), a.q)
		if !slices.IsSortedFunc(rows, value.CompareRows) {
			t.Fatalf("%s is not canonical: %v", algebra.Text(a.q), rows)
		}
		for _, r := range rows {
			if err := rowError(types, r); err != api.OK {
				t.Fatalf("%s has the row %v: %d", algebra.Text(a.q), r, err)
			}
		}
	}
}

func TestEvalDoesNotDependOnTheOrder(t *testing.T) {
	r := rand.New(rand.NewPCG(3, 8))
	for _, a := range questions(3, 1500) {
		for _, rows := range a.i.Tables {
			r.Shuffle(len(rows), func(i, k int) { rows[i], rows[k] = rows[k], rows[i] })
		}
		if rows, err := Eval(shop(), a.i, a.q); err != a.err || !sameRows(rows, a.want) {
			t.Fatalf("%s over %v is %v, %d, and not %v", algebra.Text(a.q), a.i, rows, err, a.want)
		}
	}
}

// roomy returns the rows in memory with room behind each list, to which an append would write.
func roomy(rows []row) []row {
	all := make([]row, 0, len(rows)+3)
	for _, r := range rows {
		all = append(all, append(make(row, 0, len(r)+3), r...))
	}
	return all
}

// whole returns the rows with what lies behind them.
func whole(rows []row) []row {
	var all []row
	for _, r := range rows[:cap(rows)] {
		all = append(all, slices.Clone(r[:cap(r)]))
	}
	return all
}

func roomyQuery(q api.Query) api.Query {
	q.Rows = roomy(q.Rows)
	var kids []api.Query
	for _, k := range q.Kids {
		kids = append(kids, roomyQuery(k))
	}
	q.Kids = kids
	return q
}

func rowsIn(q api.Query) [][]row {
	l := [][]row{whole(q.Rows)}
	for _, k := range q.Kids {
		l = append(l, rowsIn(k)...)
	}
	return l
}

func TestEvalLeavesArgumentsAlone(t *testing.T) {
	s := shop()
	for _, a := range questions(4, 800) {
		var before [][]row
		for k, rows := range a.i.Tables {
			a.i.Tables[k] = roomy(rows)
			before = append(before, whole(a.i.Tables[k]))
		}
		a.q = roomyQuery(a.q)
		inside, text := rowsIn(a.q), algebra.Text(a.q)
		rows, _ := Eval(s, a.i, a.q)
		for k := range rows {
			_ = append(rows[k], num(9))
			for c := range rows[k] {
				rows[k][c] = num(int64(100*k + c))
			}
		}
		for k := range rows {
			for c := range rows[k] {
				if rows[k][c] != num(int64(100*k+c)) {
					t.Fatalf("two rows of %s share memory", text)
				}
			}
			rows[k] = nil
		}
		for k := range a.i.Tables {
			if !reflect.DeepEqual(whole(a.i.Tables[k]), before[k]) {
				t.Fatalf("%s changed table %d: %v", text, k, a.i.Tables[k])
			}
		}
		if !reflect.DeepEqual(rowsIn(a.q), inside) || algebra.Text(a.q) != text || !reflect.DeepEqual(s, shop()) {
			t.Fatalf("%s changed the query or the schema", text)
		}
		if again, err := Eval(s, a.i, a.q); err != a.err || !sameRows(again, a.want) {
			t.Fatalf("%s asked again is %v, %d", text, again, err)
		}
	}
}

func TestNilAndEmptyAreTheSame(t *testing.T) {
	empty := api.Instance{Tables: [][]row{{}, {}}}
	for _, a := range questions(5, 500) {
		none, first := Eval(shop(), api.Instance{Tables: make([][]row, 2)}, a.q)
		rows, second := Eval(shop(), empty, a.q)
		if first != second || !sameRows(none, rows) {
			t.Fatalf("%s of empty tables: %v, %d", algebra.Text(a.q), rows, second)
		}
	}
	q := scan("t")
	q.Exprs, q.Aggs, q.Types, q.Rows, q.Kids = []api.Expr{}, []api.Agg{}, []int{}, []row{}, []api.Query{}
	if rows, err := Eval(shop(), empty, q); err != api.OK || len(rows) != 0 {
		t.Errorf("a scan with empty lists: %v, %d", rows, err)
	}
}
