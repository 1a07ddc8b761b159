package schema

import "querylab/api"

// Name is P3.1.
func Name(s string) bool {
	if s == "" || len(s) > api.MaxName || !letter(s[0]) {
		return false
	}
	for i := 1; i < len(s); i++ {
		if c := s[i]; !letter(c) && !digit(c) && c != '_' {
			return false
		}
	}
	return !reserved(s)
}

func letter(c byte) bool {
	return 'a' <= c && c <= 'z'
}

func digit(c byte) bool {
	return '0' <= c && c <= '9'
}

func reserved(word string) bool {
	switch word {
	case "select", "distinct", "all", "from", "where", "group", "by", "having", "as", "on",
		"union", "except", "intersect",
		"join", "inner", "left", "right", "full", "cross", "semi", "anti",
		"and", "or", "not", "is", "null", "true", "false", "in", "case", "when", "then", "else", "end",
		"values", "table", "primary", "unique", "foreign", "references", "check", "int", "bool", "text",
		"count", "sum", "min", "max", "coalesce", "length", "same", "mod":
		return true
	}
	return false
}
