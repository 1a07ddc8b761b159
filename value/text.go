package value

import (
	"strconv"

	"querylab/api"
)

// Text is P1.7.
func Text(v api.Value) string {
	if !Valid(v) {
		return "?"
	}
	switch v.Kind {
	case api.Int:
		return strconv.FormatInt(v.Num, 10)
	case api.Bool:
		if Truth(v) == isTrue {
			return "true"
		}
		return "false"
	case api.Text:
		return "'" + v.Text + "'"
	}
	return "null"
}

// Parse is P1.7.
func Parse(s string) (api.Value, api.Errno) {
	v, ok := candidate(s)
	// Several texts may lead to one candidate (007 and 7), but only one of them is its text.
	if !ok || !Valid(v) || Text(v) != s {
		return api.Value{}, api.ErrSyntax
	}
	return v, api.OK
}

// candidate returns the only value whose text might be s.
func candidate(s string) (api.Value, bool) {
	switch s {
	case "null":
		return api.Value{}, true
	case "true":
		return Bool(1), true
	case "false":
		return Bool(0), true
	}
	if n := len(s); n >= 2 && s[0] == '\'' {
		return api.Value{Kind: api.Text, Text: s[1 : n-1]}, true
	}
	n, err := strconv.ParseInt(s, 10, 64)
	return api.Value{Kind: api.Int, Num: n}, err == nil
}
