package sql

import (
	"strings"

	"querylab/api"
	"querylab/expression"
)

// statementText returns a text of a valid statement.
func statementText(s api.Statement) string {
	if s.Form == api.FormSelect {
		return selectText(s)
	}
	word := setWords()[s.Form-api.FormUnion]
	if s.All {
		word += " all"
	}
	second := statementText(s.Kids[1])
	if s.Kids[1].Form != api.FormSelect { // without brackets it would belong to what stands before
		second = "(" + second + ")"
	}
	return statementText(s.Kids[0]) + " " + word + " " + second
}

func selectText(s api.Statement) string {
	text := "select "
	if s.Distinct {
		text += "distinct "
	}
	if s.Star {
		text += "*"
	}
	text += commas(s.Items, itemText) + " from " + sourceText(s.From)
	for _, j := range s.Joins {
		text += " " + joinWords()[j.Kind] + " join " + sourceText(j.Source) + clause("on", j.On)
	}
	return text + clause("where", s.Where) + clause("group by", s.Group) + clause("having", s.Having)
}

func commas[T any](l []T, text func(T) string) string {
	var parts []string
	for _, x := range l {
		parts = append(parts, text(x))
	}
	return strings.Join(parts, ", ")
}

func itemText(i api.Item) string {
	return termText(i.Term) + aliasText(i.Name)
}

func aliasText(name string) string {
	if name == "" {
		return ""
	}
	return " as " + name
}

func sourceText(s api.Source) string {
	if len(s.Query) == 0 {
		return s.Table + aliasText(s.Name)
	}
	return "(" + statementText(s.Query[0]) + ")" + aliasText(s.Name)
}

func clause(word string, l []api.Term) string {
	if len(l) == 0 {
		return ""
	}
	return " " + word + " " + commas(l, termText)
}

// termText returns a text of a valid term.
func termText(t api.Term) string {
	switch t.Op {
	case api.OpNull:
		return "null " + typeWords()[t.Type-api.Int]
	case api.OpInt, api.OpBool, api.OpText:
		return expression.Text(leaf(t))
	case api.TermName:
		if t.Qualifier != "" {
			return t.Qualifier + "." + t.Text
		}
		return t.Text
	case api.TermAgg:
		return aggText(int(t.Num), t.Kids)
	}
	return operationText(t)
}

func aggText(fun int, kids []api.Term) string {
	argument := commas(kids, termText)
	switch fun {
	case api.AggRows:
		return "count(*)"
	case api.AggCount:
		return "count(" + argument + ")"
	case api.AggDistinct:
		return "count(distinct " + argument + ")"
	}
	return aggWords()[fun-api.AggSum] + "(" + argument + ")"
}

func operationText(t api.Term) string {
	o, _ := find(t.Op)
	switch t.Op {
	case api.OpLength, api.OpCoalesce:
		return o.word + "(" + commas(t.Kids, termText) + ")"
	case api.OpCase:
		return o.word + " when " + termText(t.Kids[0]) + " then " + termText(t.Kids[1]) + " else " + termText(t.Kids[2]) + " end"
	case api.OpIn:
		return part(t.Kids[0], levelSum) + " " + o.word + " (" + commas(t.Kids[1:], termText) + ")"
	case api.OpIsNull, api.OpIsTrue:
		return part(t.Kids[0], levelSum) + " " + o.word
	case api.OpNeg:
		return o.word + negatedText(t.Kids[0])
	case api.OpNot:
		if isNotNull(t) {
			return part(t.Kids[0].Kids[0], levelSum) + " is not null"
		}
		return o.word + " " + part(t.Kids[0], levelNot)
	}
	return binaryText(o, t.Kids)
}

// binaryText has the first operand of a chain without brackets, because chains are read from left to right. Comparisons are no chains.
func binaryText(o operation, kids []api.Term) string {
	first := o.level
	if first == levelComparison {
		first = levelSum
	}
	return part(kids[0], first) + " " + o.word + " " + part(kids[1], o.level-1)
}

// negatedText returns what stands behind the sign: a number in brackets, because both would be read as the negative number.
func negatedText(t api.Term) string {
	if t.Op == api.OpInt && t.Num > 0 {
		return "(" + termText(t) + ")"
	}
	return part(t, levelUnary)
}

// part returns the text of a term where the grammar has this level, with brackets if the term's own one is looser.
func part(t api.Term, level int) string {
	if levelOf(t) > level {
		return "(" + termText(t) + ")"
	}
	return termText(t)
}

func levelOf(t api.Term) int {
	if isNotNull(t) {
		return levelComparison
	}
	o, _ := find(t.Op)
	return o.level
}

func isNotNull(t api.Term) bool {
	return t.Op == api.OpNot && t.Kids[0].Op == api.OpIsNull
}
