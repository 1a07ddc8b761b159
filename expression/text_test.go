package expression

import (
	"strings"
	"testing"

	"querylab/api"
)

func TestTextOfLeaves(t *testing.T) {
	for _, c := range []struct {
		e    api.Expr
		want string
	}{
		{null(api.Int), "null"},
		{null(99), "null"},
		{num(0), "0"},
		{num(-7), "-7"},
		{num(api.MaxInt), "1000000000000"},
		{num(api.MaxInt + 1), "?"},
		{truthValue(1), "true"},
		{truthValue(0), "false"},
		{truthValue(2), "?"},
		{str(""), "''"},
		{str("a, b)"), "'a, b)'"},
		{str("'"), "?"},
		{str(strings.Repeat("a", api.MaxText+1)), "?"},
		{col(0), "$0"},
		{col(12), "$12"},
		{col(-1), "$-1"},
		{with(col(3), num(1)), "$3"},
		// Eval gives the null value where the number of Kids is wrong.
		{with(num(1), num(2)), "null"},
		{with(truthValue(1), num(2)), "null"},
		{with(str("a"), num(2)), "null"},
		{with(null(api.Int), num(2)), "null"},
	} {
		if got := Text(c.e); got != c.want {
			t.Errorf("Text of %v is %s", c.e, got)
		}
	}
}

func TestTextOfOperations(t *testing.T) {
	words := strings.Fields("add sub mul div mod neg concat length eq ne lt le gt ge same isnull and or not istrue case coalesce in")
	if len(words) != api.OpIn-api.OpAdd+1 {
		t.Fatalf("there are %d words", len(words))
	}
	for i, w := range words {
		o := api.OpAdd + i
		for _, c := range []struct {
			e    api.Expr
			want string
		}{
			{op(o), w + "()"},
			{op(o, num(1)), w + "(1)"},
			{op(o, num(1), col(2)), w + "(1, $2)"},
			{op(o, str("a"), op(o, null(api.Bool)), truthValue(1)), w + "('a', " + w + "(null), true)"},
			{api.Expr{Op: o, Type: 1, Num: 2, Text: "a", Column: 3}, w + "()"},
		} {
			if got := Text(c.e); got != c.want {
				t.Errorf("Text is %s, not %s", got, c.want)
			}
		}
	}
	for _, o := range unknownOps() {
		if got := Text(op(o)) + Text(op(o, num(1), op(o, col(0)))); got != "?()?(1, ?($0))" {
			t.Errorf("Text of operation %d is %s", o, got)
		}
	}
}

func TestTextOfExamples(t *testing.T) {
	for want, e := range map[string]api.Expr{
		"lt($0, 5)":            op(api.OpLt, col(0), num(5)),
		"and(null, lt($0, 5))": op(api.OpAnd, null(api.Bool), op(api.OpLt, col(0), num(5))),
		"case(isnull($1), 'a', coalesce($1, 'b'))": op(api.OpCase, op(api.OpIsNull, col(1)), str("a"), op(api.OpCoalesce, col(1), str("b"))),
	} {
		if got := Text(e); got != want {
			t.Errorf("Text is %s, not %s", got, want)
		}
	}
}

func TestTextOfDeepExpression(t *testing.T) {
	if got, want := Text(chain(3000)), strings.Repeat("neg(", 2999)+"1"+strings.Repeat(")", 2999); got != want {
		t.Errorf("Text has %d bytes", len(got))
	}
}
