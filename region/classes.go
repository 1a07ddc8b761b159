package region

import (
	"slices"
	"strconv"

	"querylab/api"
	"querylab/value"
)

// Classes is P13.3.
func Classes(c api.Column, column int, l []api.Atom) []api.Value {
	mine := about(c, column, l)
	truthsFor := truths(mine)
	seen := map[string]bool{}
	var classes []api.Value
	for _, v := range representatives(c, constantsOf(mine)) {
		k := digits(truthsFor([]api.Value{v}))
		if !seen[k] {
			classes = append(classes, v)
		}
		seen[k] = true
	}
	return classes
}

// about returns the atoms that suit a column's table and are about it, as atoms of rows that have this column alone.
func about(c api.Column, column int, l []api.Atom) []api.Atom {
	var mine []api.Atom
	for _, a := range l {
		if column >= 0 && a.Column == column && fits(c, a) {
			a.Column = 0
			mine = append(mine, a)
		}
	}
	return mine
}

// constantsOf returns the values that suiting atoms compare with, ascending, each once.
func constantsOf(l []api.Atom) []api.Value {
	var all []api.Value
	for _, a := range l {
		if a.Value != (api.Value{}) {
			all = append(all, a.Value)
		}
	}
	slices.SortFunc(all, value.Compare)
	return slices.Compact(all)
}

// representatives returns values of a column among which there is one of each class, in the order of the chapter.
func representatives(c api.Column, constants []api.Value) []api.Value {
	var l []api.Value
	switch c.Type {
	case api.Int:
		l = numbers(constants)
	case api.Bool:
		l = []api.Value{value.Bool(0), value.Bool(1)}
	case api.Text:
		l = append(constants, otherText(constants))
	}
	if c.Nullable {
		l = append(l, api.Value{})
	}
	return l
}

// numbers returns the least number, the constants and the numbers behind them; what comes twice has the truths of an earlier value.
func numbers(constants []api.Value) []api.Value {
	l := []api.Value{{Kind: api.Int, Num: -api.MaxInt}}
	for _, c := range constants {
		l = append(l, c)
		if c.Num < api.MaxInt {
			l = append(l, api.Value{Kind: api.Int, Num: c.Num + 1})
		}
	}
	return l
}

// otherText returns the text of the least number that is no constant.
func otherText(constants []api.Value) api.Value {
	for n := 0; ; n++ {
		v := api.Value{Kind: api.Text, Text: strconv.Itoa(n)}
		if !slices.Contains(constants, v) {
			return v
		}
	}
}

// digits makes a key of a map of truths.
func digits(truths []int) string {
	b := make([]byte, len(truths))
	for i, t := range truths {
		b[i] = byte('0' + t)
	}
	return string(b)
}
