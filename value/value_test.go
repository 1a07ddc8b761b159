package value

import (
	"cmp"
	"strings"
	"testing"

	"querylab/api"
)

var (
	null = api.Value{}
	yes  = api.Value{Kind: api.Bool, Num: 1}
	no   = api.Value{Kind: api.Bool}
)

func num(n int64) api.Value {
	return api.Value{Kind: api.Int, Num: n}
}

func text(s string) api.Value {
	return api.Value{Kind: api.Text, Text: s}
}

func validSamples() []api.Value {
	l := []api.Value{null, no, yes}
	for _, n := range []int64{-api.MaxInt, -api.MaxInt + 1, -1000001, -1000000, -7, -2, -1, 0, 1, 2, 7, 1000000, 1000001, api.MaxInt - 1, api.MaxInt} {
		l = append(l, num(n))
	}
	for _, s := range []string{"", " ", "a", "ab", "b", "~", "\"\\", "null", "?", strings.Repeat("a", api.MaxText-1), strings.Repeat("a", api.MaxText), strings.Repeat("~", api.MaxText)} {
		l = append(l, text(s))
	}
	return l
}

func invalidSamples() []api.Value {
	const least, greatest = -1 << 63, 1<<63 - 1
	l := []api.Value{
		{Num: 1}, {Num: -1}, {Text: "a"}, {Num: 1, Text: "a"},
		num(api.MaxInt + 1), num(-api.MaxInt - 1), num(least), num(greatest), {Kind: api.Int, Num: 1, Text: "a"},
		{Kind: api.Bool, Num: 2}, {Kind: api.Bool, Num: -1}, {Kind: api.Bool, Num: greatest}, {Kind: api.Bool, Text: "a"}, {Kind: api.Bool, Num: 1, Text: "a"},
		{Kind: api.Text, Num: 1}, {Kind: api.Text, Num: -1, Text: "a"},
		{Kind: 4}, {Kind: -1}, {Kind: least}, {Kind: greatest}, {Kind: 4, Num: 1}, {Kind: -1, Text: "a"},
	}
	for _, s := range []string{"'", "a'", "'a", "\x00", "\x1f", "a\x1f", "\n", "\t", "\x7f", "a\x7fa", "\x80", "\xff", "\u00e4", "\u20ac", strings.Repeat("a", api.MaxText+1), strings.Repeat("a", 1000)} {
		l = append(l, text(s))
	}
	return l
}

func allSamples() []api.Value {
	return append(validSamples(), invalidSamples()...)
}

func TestValidAcceptsAndRejects(t *testing.T) {
	for _, v := range validSamples() {
		if !Valid(v) {
			t.Errorf("%v is not valid", v)
		}
	}
	for _, v := range invalidSamples() {
		if Valid(v) {
			t.Errorf("%v is valid", v)
		}
	}
}

func TestValidLooksAtEachByteAtEachPlace(t *testing.T) {
	for c := range 256 {
		want := 32 <= c && c <= 126 && c != 39
		for place := range api.MaxText {
			b := []byte(strings.Repeat("a", api.MaxText))
			b[place] = byte(c)
			if Valid(text(string(b))) != want {
				t.Errorf("byte %d at place %d: Valid is %v", c, place, !want)
			}
		}
	}
}

func TestCompareFollowsKindNumText(t *testing.T) {
	ascending := []api.Value{
		{Kind: -1, Num: 9, Text: "z"},
		{Num: -1}, null, {Text: "a"}, {Num: 1},
		num(-1 << 63), num(-api.MaxInt), num(-1), num(0), {Kind: api.Int, Text: "a"}, {Kind: api.Int, Text: "b"}, num(1), num(10), num(api.MaxInt), num(1<<63 - 1),
		{Kind: api.Bool, Num: -1}, no, yes, {Kind: api.Bool, Num: 1, Text: "a"}, {Kind: api.Bool, Num: 2},
		{Kind: api.Text, Num: -1, Text: "z"}, text(""), text(" "), text("A"), text("Z"), text("a"), text("a "), text("aa"), text("b"), text("\x7f"), text("\x80"), text("\xff"), {Kind: api.Text, Num: 1},
		{Kind: 4},
	}
	for i, a := range ascending {
		for k, b := range ascending {
			want := cmp.Compare(i, k)
			if got := Compare(a, b); got != want {
				t.Errorf("Compare(%v, %v) is %d", a, b, got)
			}
			if Same(a, b) != (want == 0) {
				t.Errorf("Same(%v, %v) is %v", a, b, want != 0)
			}
		}
	}
}

func TestCompareIsTotalOrder(t *testing.T) {
	l := allSamples()
	for _, a := range l {
		for _, b := range l {
			ab := Compare(a, b)
			if ab != -Compare(b, a) || (ab == 0) != (a == b) {
				t.Fatalf("Compare(%v, %v) is %d", a, b, ab)
			}
			for _, c := range l {
				if ab <= 0 && Compare(b, c) <= 0 && Compare(a, c) > 0 {
					t.Fatalf("Compare is not transitive: %v, %v, %v", a, b, c)
				}
			}
		}
	}
}

func TestCompareRowsFollowsFirstDifference(t *testing.T) {
	ascending := [][]api.Value{
		{},
		{null},
		{null, null},
		{null, num(1)},
		{num(1)},
		{num(1), null},
		{num(1), num(5)},
		{num(1), num(5), null},
		{num(1), num(6)},
		{num(2)},
		{num(2), null, null, null},
		{yes},
		{text("")},
		{text("a")},
	}
	for i, a := range ascending {
		for k, b := range ascending {
			want := cmp.Compare(i, k)
			if got := CompareRows(a, b); got != want {
				t.Errorf("CompareRows(%v, %v) is %d", a, b, got)
			}
		}
	}
	if CompareRows(nil, []api.Value{}) != 0 || CompareRows([]api.Value{}, nil) != 0 || CompareRows(nil, nil) != 0 {
		t.Error("a nil row is not the same as an empty one")
	}
	if CompareRows(nil, []api.Value{null}) != -1 || CompareRows([]api.Value{null}, nil) != 1 {
		t.Error("a nil row does not come before a longer one")
	}
}

func TestCompareRowsLeavesRowsAlone(t *testing.T) {
	a, b := []api.Value{num(2), num(1)}, []api.Value{num(2), null}
	if CompareRows(a, b) != 1 || a[0] != num(2) || a[1] != num(1) || b[0] != num(2) || b[1] != null {
		t.Errorf("rows were changed: %v, %v", a, b)
	}
}

func TestEqualAndLess(t *testing.T) {
	for _, c := range []struct{ a, b, equal, less api.Value }{
		{num(1), num(1), yes, no},
		{num(1), num(2), no, yes},
		{num(2), num(1), no, no},
		{num(1), yes, no, yes},
		{yes, num(1), no, no},
		{no, yes, no, yes},
		{text("a"), text("a"), yes, no},
		{text("a"), text("aa"), no, yes},
		{text("b"), text("aa"), no, no},
		{num(-api.MaxInt), num(api.MaxInt), no, yes},
		{null, null, null, null},
		{null, num(1), null, null},
		{num(1), null, null, null},
		{api.Value{Num: 1}, api.Value{Num: 1}, null, null},
		{api.Value{Text: "a"}, yes, null, null},
		{text("a"), api.Value{Text: "a"}, null, null},
		{api.Value{Kind: 4}, api.Value{Kind: 4}, yes, no},
		{api.Value{Kind: -1}, num(0), no, yes},
		{api.Value{Kind: api.Bool, Num: 2}, yes, no, no},
		{api.Value{Kind: api.Int, Num: 1, Text: "a"}, num(1), no, no},
		{num(1), api.Value{Kind: api.Int, Num: 1, Text: "a"}, no, yes},
	} {
		if got := Equal(c.a, c.b); got != c.equal {
			t.Errorf("Equal(%v, %v) is %v", c.a, c.b, got)
		}
		if got := Less(c.a, c.b); got != c.less {
			t.Errorf("Less(%v, %v) is %v", c.a, c.b, got)
		}
	}
}
