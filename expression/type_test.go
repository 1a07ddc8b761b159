package expression

import (
	"slices"
	"strings"
	"testing"

	"querylab/api"
)

// signatures lists, for each operation with Kids, the lists of types that its Kids may have, and its type: i, b and t are Int, Bool and Text.
func signatures() map[int]string {
	const compare = "ii:b bb:b tt:b"
	return map[int]string{
		api.OpAdd: "ii:i", api.OpSub: "ii:i", api.OpMul: "ii:i", api.OpDiv: "ii:i", api.OpMod: "ii:i", api.OpNeg: "i:i",
		api.OpConcat: "tt:t", api.OpLength: "t:i",
		api.OpEq: compare, api.OpNe: compare, api.OpLt: compare, api.OpLe: compare, api.OpGt: compare, api.OpGe: compare, api.OpSame: compare,
		api.OpIsNull: "i:b b:b t:b", api.OpAnd: "bb:b", api.OpOr: "bb:b", api.OpNot: "b:b", api.OpIsTrue: "b:b",
		api.OpCase: "bii:i bbb:b btt:t", api.OpCoalesce: "ii:i bb:b tt:t",
		api.OpIn: "ii:b bb:b tt:b iii:b bbb:b ttt:b iiii:b bbbb:b tttt:b",
	}
}

const letters = " ibt"

// typeLists calls its function for each list of at most so many types.
func typeLists(longest int, f func(list string)) {
	lists := []string{""}
	for n := 0; n <= longest; n++ {
		var longer []string
		for _, l := range lists {
			f(l)
			longer = append(longer, l+"i", l+"b", l+"t")
		}
		lists = longer
	}
}

func wantedType(o int, list string) (int, api.Errno) {
	arity := false
	for _, s := range strings.Fields(signatures()[o]) {
		kids, result, _ := strings.Cut(s, ":")
		if kids == list {
			return strings.Index(letters, result), api.OK
		}
		arity = arity || len(kids) == len(list)
	}
	if !arity {
		return 0, api.ErrArity
	}
	return 0, api.ErrType
}

func TestTypeOfEachOperation(t *testing.T) {
	types := []int{0, api.Int, api.Bool, api.Text}
	for o := api.OpAdd; o <= api.OpIn; o++ {
		typeLists(4, func(list string) {
			e := op(o)
			for _, r := range list {
				e.Kids = append(e.Kids, col(strings.IndexRune(letters, r)))
			}
			want, wrong := wantedType(o, list)
			if got, err := Type(types, e); got != want || err != wrong {
				t.Errorf("Type of %s over %s is %d, %d", Text(e), list, got, err)
			}
		})
	}
}

func TestTypeOfLeaves(t *testing.T) {
	types := []int{api.Int, api.Bool, api.Text, 0, 4, -1, api.Text}
	full := strings.Repeat("a", api.MaxText)
	for _, c := range []struct {
		e    api.Expr
		want int
		err  api.Errno
	}{
		{null(api.Int), api.Int, api.OK},
		{null(api.Bool), api.Bool, api.OK},
		{null(api.Text), api.Text, api.OK},
		{null(0), 0, api.ErrInvalid},
		{null(4), 0, api.ErrInvalid},
		{null(-1), 0, api.ErrInvalid},
		{num(0), api.Int, api.OK},
		{num(api.MaxInt), api.Int, api.OK},
		{num(-api.MaxInt), api.Int, api.OK},
		{num(api.MaxInt + 1), 0, api.ErrInvalid},
		{num(-api.MaxInt - 1), 0, api.ErrInvalid},
		{num(-1 << 63), 0, api.ErrInvalid},
		{truthValue(0), api.Bool, api.OK},
		{truthValue(1), api.Bool, api.OK},
		{truthValue(2), 0, api.ErrInvalid},
		{truthValue(-1), 0, api.ErrInvalid},
		{str(""), api.Text, api.OK},
		{str(full), api.Text, api.OK},
		{str(full + "a"), 0, api.ErrInvalid},
		{str("'"), 0, api.ErrInvalid},
		{str("\n"), 0, api.ErrInvalid},
		{str("\xc3\xa4"), 0, api.ErrInvalid},
		{col(0), api.Int, api.OK},
		{col(1), api.Bool, api.OK},
		{col(2), api.Text, api.OK},
		{col(6), api.Text, api.OK},
		{col(3), 0, api.ErrType},
		{col(4), 0, api.ErrType},
		{col(5), 0, api.ErrType},
		{col(7), 0, api.ErrName},
		{col(-1), 0, api.ErrName},
		{col(-1 << 63), 0, api.ErrName},
		{col(1<<63 - 1), 0, api.ErrName},
	} {
		if got, err := Type(types, c.e); got != c.want || err != c.err {
			t.Errorf("Type of %v is %d, %d", c.e, got, err)
		}
		if got, err := Type(types, with(c.e, num(1))); got != 0 || c.err != api.ErrInvalid && err != api.ErrArity || c.err == api.ErrInvalid && err != api.ErrInvalid {
			t.Errorf("Type of %v with a Kid is %d, %d", c.e, got, err)
		}
	}
	if got, err := Type(nil, col(0)); got != 0 || err != api.ErrName {
		t.Errorf("Type of a column without columns is %d, %d", got, err)
	}
}

// valid returns an expression without errors of each operation, over a column of type Int.
func valid() []api.Expr {
	l := []api.Expr{null(api.Int), num(3), truthValue(1), str("a"), col(0)}
	leaf := map[byte]api.Expr{'i': num(3), 'b': truthValue(1), 't': str("a")}
	for o := api.OpAdd; o <= api.OpIn; o++ {
		kids, _, _ := strings.Cut(strings.Fields(signatures()[o])[0], ":")
		e := op(o)
		for i := range len(kids) {
			e.Kids = append(e.Kids, leaf[kids[i]])
		}
		l = append(l, e)
	}
	return l
}

func TestTypeAllowsEachOperationItsFieldAlone(t *testing.T) {
	named := map[int]string{api.OpNull: "type", api.OpInt: "num", api.OpBool: "num", api.OpText: "text", api.OpColumn: "column"}
	changes := map[string]func(e *api.Expr){
		"type":   func(e *api.Expr) { e.Type = api.Text },
		"num":    func(e *api.Expr) { e.Num = 1 },
		"text":   func(e *api.Expr) { e.Text = "b" },
		"column": func(e *api.Expr) { e.Column = 1 },
	}
	types := []int{api.Int, api.Int}
	for _, e := range valid() {
		if _, err := Type(types, e); err != api.OK {
			t.Errorf("Type of %s has the error %d", Text(e), err)
		}
		for field, change := range changes {
			changed := e
			change(&changed)
			want := api.ErrInvalid
			if named[e.Op] == field {
				want = api.OK
			}
			if got, err := Type(types, changed); err != want || err != api.OK && got != 0 {
				t.Errorf("Type of %v is %d, %d", changed, got, err)
			}
		}
	}
}

func TestTypeRejectsUnknownOperations(t *testing.T) {
	for _, o := range unknownOps() {
		for _, e := range []api.Expr{op(o), op(o, num(1)), op(o, num(1), num(2)), op(api.OpIsNull, op(o))} {
			if got, err := Type(nil, e); got != 0 || err != api.ErrInvalid {
				t.Errorf("Type of %v is %d, %d", e, got, err)
			}
		}
	}
}

func TestTypeReturnsTheFirstError(t *testing.T) {
	types := []int{api.Int, 9}
	invalid, arity, name, wrong := num(api.MaxInt+1), op(api.OpNeg), col(5), op(api.OpNot, num(1))
	for _, c := range []struct {
		e    api.Expr
		want api.Errno
	}{
		// from left to right
		{op(api.OpAdd, name, invalid), api.ErrName},
		{op(api.OpAdd, invalid, name), api.ErrInvalid},
		{op(api.OpAdd, arity, invalid), api.ErrArity},
		{op(api.OpAdd, wrong, invalid), api.ErrType},
		{op(api.OpAdd, wrong, arity), api.ErrType},
		{op(api.OpAdd, num(1), wrong), api.ErrType},
		{op(api.OpIn, num(1), num(2), name, invalid), api.ErrName},
		{op(api.OpAdd, op(api.OpNeg, op(api.OpNeg, wrong)), invalid), api.ErrType},
		{op(api.OpAdd, num(1), op(api.OpAdd, name, invalid)), api.ErrName},
		// Kids before the expression itself
		{op(99, name), api.ErrName},
		{op(99, wrong, invalid), api.ErrType},
		{api.Expr{Op: api.OpNot, Num: 1, Kids: []api.Expr{arity}}, api.ErrArity},
		{op(api.OpNeg, name, num(1)), api.ErrName},
		{op(api.OpNeg, wrong), api.ErrType},
		{with(null(0), name), api.ErrName},
		{with(col(5), wrong), api.ErrType},
		// within one expression
		{op(99, num(1)), api.ErrInvalid},
		{api.Expr{Op: api.OpNot, Num: 1}, api.ErrInvalid},
		{api.Expr{Op: api.OpNot, Text: "a", Kids: []api.Expr{num(1)}}, api.ErrInvalid},
		{api.Expr{Op: api.OpColumn, Num: 1, Column: 5}, api.ErrInvalid},
		{api.Expr{Op: api.OpColumn, Type: 1, Column: 1, Kids: []api.Expr{num(1)}}, api.ErrInvalid},
		{with(num(api.MaxInt+1), num(1)), api.ErrInvalid},
		{with(col(5), num(1)), api.ErrArity},
		{with(col(1), num(1)), api.ErrArity},
		{op(api.OpNot, num(1), num(2)), api.ErrArity},
		{op(api.OpAdd, str("a")), api.ErrArity},
		{op(api.OpCase, num(1), num(2)), api.ErrArity},
	} {
		if got, err := Type(types, c.e); got != 0 || err != c.want {
			t.Errorf("Type of %s is %d, %d", Text(c.e), got, err)
		}
	}
}

func TestTypeKnowsTheLimits(t *testing.T) {
	deepAndWide := func(depth, size int) api.Expr {
		e := chain(depth - 1)
		kids := []api.Expr{e}
		for range size - depth {
			kids = append(kids, num(1))
		}
		return op(api.OpIn, kids...)
	}
	shared := num(1)
	for range 60 { // 2^61 expressions, in little memory
		shared = op(api.OpAdd, shared, shared)
	}
	invalid := num(api.MaxInt + 1)
	for i, c := range []struct {
		e    api.Expr
		want int
		err  api.Errno
	}{
		{wide(api.MaxNodes), api.Bool, api.OK},
		{wide(api.MaxNodes + 1), 0, api.ErrLimit},
		{op(api.OpNot, wide(api.MaxNodes)), 0, api.ErrLimit},
		{op(api.OpAnd, wide(100), wide(99)), api.Bool, api.OK},
		{op(api.OpAnd, wide(100), wide(100)), 0, api.ErrLimit},
		{chain(api.MaxDepth), api.Int, api.OK},
		{chain(api.MaxDepth + 1), 0, api.ErrDepth},
		{op(api.OpAdd, num(1), chain(api.MaxDepth)), 0, api.ErrDepth},
		{chain(api.MaxNodes), 0, api.ErrDepth},
		{chain(api.MaxNodes + 1), 0, api.ErrLimit},
		{chain(10000), 0, api.ErrLimit},
		{deepAndWide(api.MaxDepth, api.MaxNodes), api.Bool, api.OK},
		{deepAndWide(api.MaxDepth+1, api.MaxNodes), 0, api.ErrDepth},
		{deepAndWide(api.MaxDepth+1, api.MaxNodes+1), 0, api.ErrLimit},
		{shared, 0, api.ErrLimit},
		{op(api.OpAdd, invalid, chain(api.MaxDepth)), 0, api.ErrDepth},
		{op(api.OpIn, invalid, wide(api.MaxNodes)), 0, api.ErrLimit},
	} {
		if got, err := Type([]int{api.Int}, c.e); got != c.want || err != c.err {
			t.Errorf("%d: Type is %d, %d", i, got, err)
		}
	}
}

func TestTypeLeavesArgumentsAlone(t *testing.T) {
	types, e := []int{api.Int, api.Text}, op(api.OpAdd, col(0), op(api.OpLength, col(1)))
	if got, err := Type(types, e); got != api.Int || err != api.OK {
		t.Errorf("Type is %d, %d", got, err)
	}
	if !slices.Equal(types, []int{api.Int, api.Text}) || Text(e) != "add($0, length($1))" {
		t.Errorf("the arguments were changed: %v, %v", types, e)
	}
}
