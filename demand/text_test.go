package demand

import (
	"math"
	"math/rand/v2"
	"slices"
	"testing"

	"querylab/api"
)

func checkText(t *testing.T, s api.Schema, l []api.Demand) {
	t.Helper()
	text := Text(s, l)
	if got, n, err := Parse(s, text); err != api.OK || n != 0 || !slices.EqualFunc(got, l, sameDemand) {
		t.Fatalf("%v has the text %q, and that %v, %d, %d", l, text, got, n, err)
	}
}

func TestText(t *testing.T) {
	for _, d := range demands() {
		checkText(t, shop(), []api.Demand{d})
		d.Rows = api.MaxScale
		checkText(t, shop(), []api.Demand{d})
	}
	checkText(t, shop(), demands())
	checkText(t, shop(), nil)
	checkText(t, full(), []api.Demand{{View: view("f", []int{0, 0, 0, 0, 0}, op(api.OpOr, op(api.OpEq, col(16), lit(-1)), op(api.OpEq, col(1), lit(1))))}})
	deep, balanced := few(), ands(32, op(api.OpIsNull, col(9)))
	for range api.MaxDepth - 2 {
		deep = op(api.OpOr, few(), deep)
	}
	mirrored := few()
	for range api.MaxDepth - 2 {
		mirrored = op(api.OpAnd, mirrored, op(api.OpOr, col(2), col(9)))
	}
	for _, e := range []api.Expr{deep, mirrored, balanced, nots(api.MaxDepth-2, few())} {
		checkText(t, shop(), []api.Demand{{View: view("orders", []int{0}, e), Rows: 7}})
	}
}

func TestTextOfRandomDemands(t *testing.T) {
	constants := []api.Value{num(0), num(5), num(-5), num(api.MaxInt), num(-api.MaxInt), yes, no, text(""), text("a"), text(" where "), text("rows 1 of \"t1\"?"), text("\\n--;")}
	r := rand.New(rand.NewPCG(6, 14))
	for range 1000 {
		var l []api.Demand
		for range r.IntN(6) {
			v := chains()[r.IntN(6)]
			chain, _ := Tables(shop(), v)
			if r.IntN(5) > 0 {
				v.Cond = []api.Expr{predicate(r, suiting(shop(), chain, constants...), 3)}
			}
			l = append(l, api.Demand{View: v, Rows: r.IntN(api.MaxScale + 1)})
		}
		checkText(t, shop(), l)
	}
}

func TestNoText(t *testing.T) {
	good := demands()[:3]
	for name, d := range map[string]api.Demand{
		"negative":      {View: view("orders", nil), Rows: -1},
		"least":         {View: view("orders", nil), Rows: math.MinInt},
		"too large":     {View: view("orders", nil), Rows: api.MaxScale + 1},
		"largest":       {View: view("orders", nil), Rows: math.MaxInt},
		"no table":      {View: view("order", nil)},
		"no key":        {View: view("orders", []int{2})},
		"two":           {View: view("orders", nil, few(), few())},
		"no atom":       {View: view("orders", nil, op(api.OpEq, col(0), col(0)))},
		"nothing":       {},
		"too deep":      {View: view("orders", nil, nots(api.MaxDepth-1, few()))},
		"too many":      {View: view("orders", nil, ands(64, few()))},
		"wrong columns": {View: view("orders", nil, op(api.OpIsNull, col(6)))},
	} {
		for k := range good {
			if text := Text(shop(), slices.Insert(slices.Clone(good), k, d)); text != "" {
				t.Errorf("%s: %q", name, text)
			}
		}
	}
	one := []api.Demand{{View: view("cities", nil), Rows: 1}}
	checkText(t, shop(), slices.Repeat(one, api.MaxDemands))
	for _, n := range []int{api.MaxDemands + 1, 1000} {
		if text := Text(shop(), slices.Repeat(one, n)); text != "" {
			t.Errorf("%d: %q", n, text)
		}
	}
	if text := Text(circle(), []api.Demand{{View: view("b", nil), Rows: 1}}); text != "" {
		t.Errorf("%q", text)
	}
}

// TestLongText has a text that is too long to be read again.
func TestLongText(t *testing.T) {
	d := api.Demand{View: view("orders", nil, ands(32, op(api.OpNe, col(5), str("no name"))))}
	checkText(t, shop(), []api.Demand{d})
	text := Text(shop(), slices.Repeat([]api.Demand{d}, api.MaxDemands))
	if _, n, err := Parse(shop(), text); err != api.ErrLimit || n != 0 {
		t.Errorf("%d bytes: %d, %d", len(text), n, err)
	}
}
