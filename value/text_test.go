package value

import (
	"strings"
	"testing"

	"querylab/api"
)

func TestTextAndParse(t *testing.T) {
	full := strings.Repeat("~", api.MaxText)
	for _, c := range []struct {
		v api.Value
		s string
	}{
		{null, "null"}, {yes, "true"}, {no, "false"},
		{num(0), "0"}, {num(7), "7"}, {num(-7), "-7"}, {num(api.MaxInt), "1000000000000"}, {num(-api.MaxInt), "-1000000000000"},
		{text(""), "''"}, {text("ab"), "'ab'"}, {text(" a b "), "' a b '"}, {text("null"), "'null'"}, {text("7"), "'7'"}, {text("?"), "'?'"}, {text("\\"), "'\\'"}, {text(full), "'" + full + "'"},
	} {
		if got := Text(c.v); got != c.s {
			t.Errorf("Text(%v) is %s", c.v, got)
		}
		if got, e := Parse(c.s); got != c.v || e != api.OK {
			t.Errorf("Parse(%s) is %v, %d", c.s, got, e)
		}
	}
}

func TestTextOfInvalidValue(t *testing.T) {
	for _, v := range invalidSamples() {
		if got := Text(v); got != "?" {
			t.Errorf("Text(%v) is %s", v, got)
		}
	}
}

func TestParseReadsWhatTextWrites(t *testing.T) {
	for _, v := range validSamples() {
		if got, e := Parse(Text(v)); got != v || e != api.OK {
			t.Errorf("Parse(%s) is %v, %d", Text(v), got, e)
		}
	}
}

func TestParseRejects(t *testing.T) {
	for _, s := range []string{
		"", " ", "?", "Null", "NULL", "null ", " null", "True", "FALSE", "tru", "truee",
		"-", "+", "-0", "+0", "+1", "00", "007", "-07", "--1", " 1", "1 ", "1\n", "1.0", "1e3", "0x1", "1_000", "\u0661",
		"1000000000001", "-1000000000001", "9223372036854775807", "9223372036854775808", "-9223372036854775809", "18446744073709551616", strings.Repeat("1", 1000),
		"'", "'a", "a'", "a", "'''", "''''", "'a'b'", "'a''b'", "'a' ", " 'a'", "\"a\"", "'\n'", "'\x7f'", "'\u00e4'",
		"'" + strings.Repeat("a", api.MaxText+1) + "'", "'" + strings.Repeat("a", 1000) + "'",
	} {
		if v, e := Parse(s); v != null || e != api.ErrSyntax {
			t.Errorf("Parse(%q) is %v, %d", s, v, e)
		}
	}
}

func TestParseOfShortTexts(t *testing.T) {
	const letters = "01-+'anult?x \x00\xff"
	texts := []string{""}
	for range 4 {
		var longer []string
		for _, s := range texts {
			for i := range len(letters) {
				longer = append(longer, s+letters[i:i+1])
			}
		}
		for _, s := range longer {
			v, e := Parse(s)
			if e == api.OK && (!Valid(v) || Text(v) != s) || e != api.OK && (v != null || e != api.ErrSyntax) {
				t.Fatalf("Parse(%q) is %v, %d", s, v, e)
			}
		}
		texts = longer
	}
}
