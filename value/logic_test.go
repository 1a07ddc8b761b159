package value

import (
	"testing"

	"querylab/api"
)

func TestTruth(t *testing.T) {
	for v, want := range map[api.Value]int{
		yes: 1, no: 0, null: 2,
		{Kind: api.Bool, Num: 1, Text: "a"}: 1,
		{Kind: api.Bool, Num: 2}:            0,
		{Kind: api.Bool, Num: -1}:           0,
		{Kind: api.Bool, Num: 9, Text: "a"}: 0,
		{Kind: api.Bool, Num: 1 << 62}:      0,
		num(1):                              2,
		num(0):                              2,
		text(""):                            2,
		text("true"):                        2,
		{Num: 1}:                            2,
		{Kind: 4, Num: 1}:                   2,
		{Kind: -1}:                          2,
	} {
		if got := Truth(v); got != want {
			t.Errorf("Truth(%v) is %d", v, got)
		}
	}
}

func TestBool(t *testing.T) {
	for n, want := range map[int]api.Value{0: no, 1: yes, 2: null, 3: null, -1: null, 256: null, 257: null, 1 << 32: null, 1<<32 + 1: null, 1<<63 - 1: null, -1 << 63: null} {
		if got := Bool(n); got != want {
			t.Errorf("Bool(%d) is %v", n, got)
		}
	}
}

// withTruth lists values by their truth: 0, 1 and 2; those behind the first one are not valid or no truth values.
func withTruth() [][]api.Value {
	return [][]api.Value{
		{no, {Kind: api.Bool, Num: 2}, {Kind: api.Bool, Num: -1, Text: "a"}},
		{yes, {Kind: api.Bool, Num: 1, Text: "a"}},
		{null, num(0), num(1), text(""), {Num: 1}, {Text: "a"}, {Kind: 4, Num: 1}, {Kind: -1}},
	}
}

func TestAndOrNotDependOnTruthsAlone(t *testing.T) {
	and := [][]api.Value{{no, no, no}, {no, yes, null}, {no, null, null}}
	or := [][]api.Value{{no, yes, null}, {yes, yes, yes}, {null, yes, null}}
	not := []api.Value{yes, no, null}
	for i, as := range withTruth() {
		for _, a := range as {
			if got := Not(a); got != not[i] {
				t.Errorf("Not(%v) is %v", a, got)
			}
			for k, bs := range withTruth() {
				for _, b := range bs {
					if got := And(a, b); got != and[i][k] {
						t.Errorf("And(%v, %v) is %v", a, b, got)
					}
					if got := Or(a, b); got != or[i][k] {
						t.Errorf("Or(%v, %v) is %v", a, b, got)
					}
				}
			}
		}
	}
}

func TestLogicIsMonotone(t *testing.T) {
	for _, b := range []api.Value{no, yes, null} {
		for _, known := range []api.Value{no, yes} {
			for name, f := range map[string]func(a, b api.Value) api.Value{"And": And, "Or": Or} {
				if got := f(null, b); got != null && got != f(known, b) {
					t.Errorf("%s(null, %v) is not that of %v", name, b, known)
				}
				if got := f(b, null); got != null && got != f(b, known) {
					t.Errorf("%s(%v, null) is not that of %v", name, b, known)
				}
			}
		}
	}
	if Not(null) != null {
		t.Error("Not of null is known")
	}
}
