package expression

import (
	"strconv"
	"strings"

	"querylab/api"
	"querylab/value"
)

// Text is P2.5.
func Text(e api.Expr) string {
	var b strings.Builder
	write(&b, e)
	return b.String()
}

func write(b *strings.Builder, e api.Expr) {
	switch e.Op {
	case api.OpNull, api.OpInt, api.OpBool, api.OpText:
		b.WriteString(value.Text(Eval(e, nil)))
		return
	case api.OpColumn:
		b.WriteString("$" + strconv.Itoa(e.Column))
		return
	}
	b.WriteString(word(e.Op) + "(")
	for i, k := range e.Kids {
		if i > 0 {
			b.WriteString(", ")
		}
		write(b, k)
	}
	b.WriteString(")")
}

func word(op int) string {
	o, ok := find(op)
	if !ok {
		return "?"
	}
	return o.word
}
