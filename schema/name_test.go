package schema

import (
	"strings"
	"testing"

	"querylab/api"
)

// reservedWords is the chapter's list.
const reservedWords = "select, distinct, all, from, where, group, by, having, as, on, union, except, intersect, join, inner, left, right, full, cross, semi, anti, and, or, not, is, null, true, false, in, case, when, then, else, end, values, table, primary, unique, foreign, references, check, int, bool, text, count, sum, min, max, coalesce, length, same, mod"

func TestNameRejectsReservedWords(t *testing.T) {
	words := strings.Split(reservedWords, ", ")
	isReserved := map[string]bool{}
	for _, w := range words {
		isReserved[w] = true
	}
	for _, w := range words {
		if Name(w) {
			t.Errorf("%s is a name", w)
		}
		for i := range len(w) + 1 {
			for _, near := range []string{w[:i] + "x" + w[i:], w[:i] + "0" + w[i:], w[:i] + "_" + w[i:], w[:i], w[i:]} {
				want := near != "" && near[0] >= 'a' && !isReserved[near]
				if Name(near) != want {
					t.Errorf("Name(%s) is %v", near, !want)
				}
			}
		}
	}
}

func TestNameLooksAtEachByteAtEachPlace(t *testing.T) {
	for c := range 256 {
		letter := strings.IndexByte("abcdefghijklmnopqrstuvwxyz", byte(c)) >= 0
		other := strings.IndexByte("0123456789_", byte(c)) >= 0
		for place := range api.MaxName {
			b := []byte(strings.Repeat("k", api.MaxName))
			b[place] = byte(c)
			want := letter || other && place > 0
			if Name(string(b)) != want {
				t.Errorf("Name(%q) is %v", b, !want)
			}
		}
		if got := Name(string([]byte{byte(c)})); got != letter {
			t.Errorf("Name of the byte %d is %v", c, got)
		}
	}
}

func TestNameLooksAtLength(t *testing.T) {
	for n := range 40 {
		want := 1 <= n && n <= 16
		if Name(strings.Repeat("a", n)) != want {
			t.Errorf("Name of %d bytes is %v", n, !want)
		}
	}
	for _, s := range []string{strings.Repeat("a", 1000), strings.Repeat("\u00e4", 8), "SELECT", "Select", "a\x00", "a\n"} {
		if Name(s) {
			t.Errorf("%q is a name", s)
		}
	}
	for _, s := range []string{"a", "z", "t0", "orders_2", "a_", "a__b", "selects", "integer", "boolean", "order", "avg", "null_"} {
		if !Name(s) {
			t.Errorf("%s is no name", s)
		}
	}
}
