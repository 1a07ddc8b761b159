package algebra

import (
	"bytes"

	"querylab/api"
	"querylab/expression"
	"querylab/value"
)

const (
	separator = ", "
	unknown   = "?"
)

// Text is P4.3.
func Text(q api.Query) string {
	return string(appendQuery(nil, q))
}

func appendQuery(b []byte, q api.Query) []byte {
	o, _ := find(q.Op)
	b = append(b, o.word+"("...)
	b = appendFields(b, o, q)
	b = appendParts(b, q.Kids, appendQuery)
	return appendEnd(b)
}

// appendParts has a separator behind each part, because those of another list may follow.
func appendParts[T any](b []byte, parts []T, add func(b []byte, part T) []byte) []byte {
	for _, p := range parts {
		b = append(add(b, p), separator...)
	}
	return b
}

// appendEnd has the bracket in the place of the separator that stands behind the last part, if there is one.
func appendEnd(b []byte) []byte {
	return append(bytes.TrimSuffix(b, []byte(separator)), ')')
}

func appendFields(b []byte, o operator, q api.Query) []byte {
	if o.uses(hasTable) {
		b = appendParts(b, []string{q.Table}, appendName)
	}
	if o.uses(hasKind) {
		b = appendParts(b, []int{q.Kind}, appendKind)
	}
	if o.uses(hasAll) {
		b = appendParts(b, []bool{q.All}, appendAll)
	}
	if o.uses(hasCond) {
		b = appendParts(b, []api.Expr{q.Cond}, appendExpr)
	}
	if o.uses(hasExprs) {
		b = appendParts(b, q.Exprs, appendExpr)
	}
	if o.uses(hasAggs) {
		b = appendParts(b, q.Aggs, appendAgg)
	}
	if o.uses(hasTypes) {
		b = appendParts(b, q.Types, appendType)
	}
	if o.uses(hasRows) {
		b = appendParts(b, q.Rows, appendRow)
	}
	return b
}

func appendName(b []byte, name string) []byte {
	return append(b, name...)
}

func appendKind(b []byte, kind int) []byte {
	words := []string{
		api.JoinInner: "inner", api.JoinLeft: "left", api.JoinRight: "right",
		api.JoinFull: "full", api.JoinSemi: "semi", api.JoinAnti: "anti",
	}
	return append(b, wordOf(words, kind)...)
}

func appendAll(b []byte, all bool) []byte {
	if all {
		return append(b, "all"...)
	}
	return append(b, "distinct"...)
}

func appendExpr(b []byte, e api.Expr) []byte {
	return append(b, expression.Text(e)...)
}

func appendAgg(b []byte, a api.Agg) []byte {
	words := []string{
		api.AggCount: "count", api.AggDistinct: "countd", api.AggSum: "sum", api.AggMin: "min", api.AggMax: "max",
	}
	if a.Fun == api.AggRows {
		return append(b, "count(*)"...)
	}
	word := wordOf(words, a.Fun)
	if word == unknown {
		return append(b, word...)
	}
	return append(b, word+"("+expression.Text(a.Arg)+")"...)
}

func appendType(b []byte, t int) []byte {
	words := []string{api.Int: "int", api.Bool: "bool", api.Text: "text"}
	return append(b, wordOf(words, t)...)
}

func appendRow(b []byte, row []api.Value) []byte {
	return appendEnd(appendParts(append(b, '('), row, appendValue))
}

func appendValue(b []byte, v api.Value) []byte {
	return append(b, value.Text(v)...)
}

// wordOf returns the word with a number, or what stands for numbers that have none.
func wordOf(words []string, n int) string {
	if n < 0 || n >= len(words) || words[n] == "" {
		return unknown
	}
	return words[n]
}
