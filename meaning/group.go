package meaning

import (
	"math/bits"
	"slices"

	"querylab/api"
	"querylab/expression"
	"querylab/value"
)

// group returns the row of each group of rows that have the same values of exprs: these values and those of the aggregates.
func group(exprs []api.Expr, aggs []api.Agg, rows [][]api.Value) [][]api.Value {
	describe := func(g grouped) []api.Value {
		row := g.key
		for _, a := range aggs {
			row = append(row, Aggregate(a, g.rows))
		}
		return row
	}
	if len(exprs) == 0 {
		return [][]api.Value{describe(grouped{nil, rows})}
	}
	var result [][]api.Value
	for _, g := range divide(exprs, rows) {
		result = append(result, describe(g))
	}
	return result
}

// grouped is rows with the same key.
type grouped struct {
	key  []api.Value
	rows [][]api.Value
}

// divide returns the groups, in the order of their keys.
func divide(exprs []api.Expr, rows [][]api.Value) []grouped {
	var each []grouped
	for _, row := range rows {
		each = append(each, grouped{values(exprs, row), [][]api.Value{row}})
	}
	slices.SortStableFunc(each, func(a, b grouped) int { return value.CompareRows(a.key, b.key) })
	var groups []grouped
	for _, g := range each {
		last := len(groups) - 1
		if last >= 0 && value.CompareRows(groups[last].key, g.key) == 0 {
			groups[last].rows = append(groups[last].rows, g.rows...)
		} else {
			groups = append(groups, g)
		}
	}
	return groups
}

// Aggregate is P8.3.
func Aggregate(a api.Agg, rows [][]api.Value) api.Value {
	switch a.Fun {
	case api.AggRows:
		return number(len(rows))
	case api.AggCount:
		return number(len(known(a.Arg, rows)))
	case api.AggDistinct:
		return number(len(slices.Compact(known(a.Arg, rows))))
	case api.AggSum:
		return sum(known(a.Arg, rows))
	case api.AggMin, api.AggMax:
		l := known(a.Arg, rows)
		if len(l) == 0 {
			break
		}
		if a.Fun == api.AggMin {
			return l[0]
		}
		return l[len(l)-1]
	}
	return api.Value{}
}

func number(n int) api.Value {
	return api.Value{Kind: api.Int, Num: int64(n)}
}

// known returns the values of an expression that are not null, in the order of value.Compare.
func known(e api.Expr, rows [][]api.Value) []api.Value {
	var l []api.Value
	for _, row := range rows {
		if v := expression.Eval(e, row); v.Kind != api.Null {
			l = append(l, v)
		}
	}
	slices.SortFunc(l, value.Compare)
	return l
}

// sum adds with 128 bits, because what many numbers add up to on the way may exceed an int64.
func sum(l []api.Value) api.Value {
	var high, low, carry uint64
	found := false
	for _, v := range l {
		if v.Kind == api.Int {
			found = true
			low, carry = bits.Add64(low, uint64(v.Num), 0)
			high, _ = bits.Add64(high, uint64(v.Num>>63), carry)
		}
	}
	total := api.Value{Kind: api.Int, Num: int64(low)}
	if !found || int64(high) != total.Num>>63 || !value.Valid(total) {
		return api.Value{}
	}
	return total
}
