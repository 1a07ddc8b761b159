package meaning

import (
	"math"
	"math/big"
	"math/rand"
	"slices"
	"testing"

	"querylab/api"
	"querylab/value"
)

// rowsOf returns rows of one column.
func rowsOf(l ...api.Value) []row {
	var rows []row
	for _, v := range l {
		rows = append(rows, row{v})
	}
	return rows
}

func TestAggregates(t *testing.T) {
	big := num(api.MaxInt)
	for name, c := range map[string]struct {
		rows []row
		// The values of count(*), count, countd, sum, min and max.
		want [6]api.Value
	}{
		"no rows":       {nil, [6]api.Value{num(0), num(0), num(0), null, null, null}},
		"nulls":         {rowsOf(null, null), [6]api.Value{num(2), num(0), num(0), null, null, null}},
		"numbers":       {rowsOf(num(3), null, num(-1), num(3)), [6]api.Value{num(4), num(3), num(2), num(5), num(-1), num(3)}},
		"zero":          {rowsOf(num(0)), [6]api.Value{num(1), num(1), num(1), num(0), num(0), num(0)}},
		"texts":         {rowsOf(text("b"), text(""), null, text("a"), text("b")), [6]api.Value{num(5), num(4), num(3), null, text(""), text("b")}},
		"bools":         {rowsOf(truth(1), truth(1)), [6]api.Value{num(2), num(2), num(1), null, truth(1), truth(1)}},
		"mixed":         {rowsOf(text("a"), num(5), truth(0), num(4)), [6]api.Value{num(4), num(4), num(4), num(9), num(4), text("a")}},
		"greatest":      {rowsOf(big, big, num(-api.MaxInt)), [6]api.Value{num(3), num(3), num(2), big, num(-api.MaxInt), big}},
		"too great":     {rowsOf(big, num(1)), [6]api.Value{num(2), num(2), num(2), null, num(1), big}},
		"least":         {rowsOf(num(-api.MaxInt+1), num(-1)), [6]api.Value{num(2), num(2), num(2), num(-api.MaxInt), num(-api.MaxInt + 1), num(-1)}},
		"too small":     {rowsOf(num(-api.MaxInt), num(-1)), [6]api.Value{num(2), num(2), num(2), null, num(-api.MaxInt), num(-1)}},
		"null by kind":  {rowsOf(api.Value{Num: 5, Text: "a"}), [6]api.Value{num(1), num(0), num(0), null, null, null}},
		"rows too long": {[]row{{num(1), num(2)}, {}, {num(2)}}, [6]api.Value{num(3), num(2), num(2), num(3), num(1), num(2)}},
		"not valid": {rowsOf(api.Value{Kind: 5}, num(1<<62), api.Value{Kind: -1, Num: 4}, num(1<<62)), [6]api.Value{
			num(4), num(4), num(3), null, {Kind: -1, Num: 4}, {Kind: 5},
		}},
		"beyond 64 bits": {rowsOf(num(math.MaxInt64), num(math.MaxInt64), num(2)), [6]api.Value{num(3), num(3), num(2), null, num(2), num(math.MaxInt64)}},
		"and below":      {rowsOf(num(math.MinInt64), num(math.MinInt64)), [6]api.Value{num(2), num(2), num(1), null, num(math.MinInt64), num(math.MinInt64)}},
		"and back again": {rowsOf(num(math.MaxInt64), num(math.MaxInt64), num(math.MinInt64), num(math.MinInt64), num(3)), [6]api.Value{
			num(5), num(5), num(3), num(1), num(math.MinInt64), num(math.MaxInt64),
		}},
	} {
		for k, want := range c.want {
			a := api.Agg{Fun: api.AggRows + k, Arg: column(0)}
			if a.Fun == api.AggRows {
				a.Arg = api.Expr{}
			}
			if got := Aggregate(a, c.rows); got != want {
				t.Errorf("%s: aggregate %d is %v", name, a.Fun, got)
			}
		}
	}
}

func TestAggregateOfExpressions(t *testing.T) {
	rows := rowsOf(num(1), num(2), num(3), null)
	for _, c := range []struct {
		a    api.Agg
		want api.Value
	}{
		{api.Agg{Fun: api.AggRows, Arg: column(0)}, num(4)},
		{api.Agg{Fun: api.AggCount, Arg: lit(7)}, num(4)},
		{api.Agg{Fun: api.AggDistinct, Arg: lit(7)}, num(1)},
		{api.Agg{Fun: api.AggSum, Arg: lit(7)}, num(28)},
		{api.Agg{Fun: api.AggSum, Arg: op(api.OpMul, column(0), column(0))}, num(14)},
		{api.Agg{Fun: api.AggMin, Arg: op(api.OpNeg, column(0))}, num(-3)},
		{api.Agg{Fun: api.AggMax, Arg: op(api.OpIsNull, column(0))}, truth(1)},
		{api.Agg{Fun: api.AggCount, Arg: column(1)}, num(0)},
		{api.Agg{Fun: api.AggMax, Arg: api.Expr{}}, null},
		{api.Agg{Fun: api.AggCount, Arg: api.Expr{Op: 99}}, num(0)},
	} {
		if got := Aggregate(c.a, rows); got != c.want {
			t.Errorf("%v: %v", c.a, got)
		}
	}
	for _, fun := range []int{-1, 0, 7, 8, 1 << 40, math.MaxInt, math.MinInt} {
		if got := Aggregate(api.Agg{Fun: fun, Arg: column(0)}, rows); got != null {
			t.Errorf("aggregate %d is %v", fun, got)
		}
	}
}

func TestSumIsExact(t *testing.T) {
	r := rand.New(rand.NewSource(1))
	for range 3000 {
		var l []api.Value
		total := new(big.Int)
		for range r.Intn(12) {
			n := r.Int63() - r.Int63()
			n >>= uint(r.Intn(64))
			l = append(l, num(n))
			total.Add(total, big.NewInt(n))
			if r.Intn(3) == 0 {
				l = append(l, null, text("9"))
			}
		}
		if r.Intn(2) == 0 && len(l) > 0 { // Lead back into the range.
			for total.CmpAbs(big.NewInt(api.MaxInt)) > 0 {
				back := big.NewInt(-math.MaxInt64)
				if total.Sign() < 0 {
					back.Neg(back)
				}
				if total.CmpAbs(back) < 0 {
					back.Neg(total)
					back.Add(back, big.NewInt(r.Int63n(10)))
				}
				l = append(l, num(back.Int64()))
				total.Add(total, back)
			}
		}
		want := num(0)
		want.Num = total.Int64()
		if len(l) == 0 || total.CmpAbs(big.NewInt(api.MaxInt)) > 0 {
			want = null
		}
		r.Shuffle(len(l), func(i, k int) { l[i], l[k] = l[k], l[i] })
		if got := Aggregate(api.Agg{Fun: api.AggSum, Arg: column(0)}, rowsOf(l...)); got != want {
			t.Fatalf("sum of %v is %v, not %v", l, got, want)
		}
	}
}

func TestAggregatesDoNotDependOnTheOrder(t *testing.T) {
	r := rand.New(rand.NewSource(2))
	some := []api.Value{null, num(1), num(2), num(math.MaxInt64), num(math.MinInt64), text("a"), text("b"), truth(0), truth(1), {Kind: 9}, {Kind: -3, Text: "a"}, {Num: 4}, {Kind: api.Text, Num: 2, Text: "a"}}
	for range 500 {
		var l []api.Value
		for range r.Intn(9) {
			l = append(l, some[r.Intn(len(some))])
		}
		rows := rowsOf(l...)
		var different []api.Value
		times := 0
		for _, v := range l {
			if v.Kind == api.Null {
				continue
			}
			times++
			if !slices.Contains(different, v) {
				different = append(different, v)
			}
		}
		slices.SortFunc(different, value.Compare)
		least, last := null, null
		if len(different) > 0 {
			least, last = different[0], different[len(different)-1]
		}
		want := []api.Value{num(int64(times)), num(int64(len(different))), least, last}
		for k, fun := range []int{api.AggCount, api.AggDistinct, api.AggMin, api.AggMax} {
			if got := Aggregate(api.Agg{Fun: fun, Arg: column(0)}, rows); got != want[k] {
				t.Fatalf("aggregate %d of %v is %v, not %v", fun, l, got, want[k])
			}
		}
		if !sameRows(rows, rowsOf(l...)) {
			t.Fatalf("the rows of %v have changed: %v", l, rows)
		}
	}
}
