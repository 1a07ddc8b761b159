package syntax

import (
	"strings"

	"querylab/api"
	"querylab/value"
)

// token returns the token with which a text begins, or nothing if it begins with none.
func token(s string) string {
	if s == "" {
		return ""
	}
	switch c := s[0]; {
	case letter(c):
		return word(s)
	case digit(c):
		return literal(leading(s, digit))
	case c == '\'':
		return literal(quoted(s))
	}
	return sign(s)
}

func blank(c byte) bool {
	return c == ' ' || c == '\n'
}

func letter(c byte) bool {
	return 'a' <= c && c <= 'z'
}

func digit(c byte) bool {
	return '0' <= c && c <= '9'
}

func inWord(c byte) bool {
	return letter(c) || digit(c) || c == '_'
}

// leading returns the longest beginning of a text that consists of such bytes.
func leading(s string, such func(byte) bool) string {
	n := 0
	for n < len(s) && such(s[n]) {
		n++
	}
	return s[:n]
}

func word(s string) string {
	w := leading(s, inWord)
	if len(w) > api.MaxName {
		return ""
	}
	return w
}

func quoted(s string) string {
	n := strings.IndexByte(s[1:], '\'')
	if n < 0 {
		return ""
	}
	return s[:n+2]
}

// literal returns the text of a value as it is, and nothing for any other text.
func literal(s string) string {
	if _, err := value.Parse(s); err != api.OK {
		return ""
	}
	return s
}

func sign(s string) string {
	// The longer signs come first, because a token is as long as it can be.
	signs := []string{"<>", "<=", ">=", "||", "=", "<", ">", "+", "-", "*", "/", "(", ")", ",", ".", ";"}
	for _, x := range signs {
		if strings.HasPrefix(s, x) {
			return x
		}
	}
	return ""
}
