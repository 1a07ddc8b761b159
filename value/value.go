// Package value is layer 1: see shared/doc/01-value.md.
package value

import (
	"cmp"

	"querylab/api"
)

// Valid is P1.1.
func Valid(v api.Value) bool {
	switch v.Kind {
	case api.Null:
		return v == api.Value{}
	case api.Int:
		return v.Text == "" && -api.MaxInt <= v.Num && v.Num <= api.MaxInt
	case api.Bool:
		return v.Text == "" && (v.Num == 0 || v.Num == 1)
	case api.Text:
		return v.Num == 0 && validText(v.Text)
	}
	return false
}

func validText(s string) bool {
	return len(s) <= api.MaxText && everyByte(s, func(c byte) bool {
		return 32 <= c && c <= 126 && c != '\''
	})
}

func everyByte(s string, holds func(byte) bool) bool {
	for i := 0; i < len(s); i++ {
		if !holds(s[i]) {
			return false
		}
	}
	return true
}

// Compare is P1.2.
func Compare(a, b api.Value) int {
	if a.Kind != b.Kind {
		return cmp.Compare(a.Kind, b.Kind)
	}
	if a.Num != b.Num {
		return cmp.Compare(a.Num, b.Num)
	}
	return cmp.Compare(a.Text, b.Text)
}

// CompareRows is P1.2.
func CompareRows(a, b []api.Value) int {
	for i := 0; i < len(a) && i < len(b); i++ {
		if c := Compare(a[i], b[i]); c != 0 {
			return c
		}
	}
	return cmp.Compare(len(a), len(b))
}

// Same is P1.2.
func Same(a, b api.Value) bool {
	return a == b
}

// Equal is P1.4.
func Equal(a, b api.Value) api.Value {
	if isNull(a) || isNull(b) {
		return api.Value{}
	}
	return fromBool(Same(a, b))
}

// Less is P1.4.
func Less(a, b api.Value) api.Value {
	if isNull(a) || isNull(b) {
		return api.Value{}
	}
	return fromBool(Compare(a, b) < 0)
}

func isNull(v api.Value) bool {
	return v.Kind == api.Null
}

func fromBool(holds bool) api.Value {
	if holds {
		return Bool(1)
	}
	return Bool(0)
}
