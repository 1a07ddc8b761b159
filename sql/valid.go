package sql

import (
	"slices"

	"querylab/api"
	"querylab/expression"
	"querylab/schema"
)

// within reports whether the depth of a statement is at most this one. It goes no deeper than that.
func within(depth int, s api.Statement) bool {
	return depth > 0 &&
		every(terms(s), func(t api.Term) bool { return termWithin(depth-1, t) }) &&
		every(statements(s), func(k api.Statement) bool { return within(depth-1, k) })
}

func termWithin(depth int, t api.Term) bool {
	return depth > 0 && every(t.Kids, func(k api.Term) bool { return termWithin(depth-1, k) })
}

func every[T any](l []T, holds func(T) bool) bool {
	return !slices.ContainsFunc(l, func(x T) bool { return !holds(x) })
}

// terms returns those that stand in a statement, but not in a statement within it.
func terms(s api.Statement) []api.Term {
	var l []api.Term
	for _, i := range s.Items {
		l = append(l, i.Term)
	}
	for _, j := range s.Joins {
		l = append(l, j.On...)
	}
	return slices.Concat(l, s.Where, s.Group, s.Having)
}

// statements returns those that stand in a statement, but not in another one within it.
func statements(s api.Statement) []api.Statement {
	l := slices.Concat(s.Kids, s.From.Query)
	for _, j := range s.Joins {
		l = append(l, j.Source.Query...)
	}
	return l
}

// formed reports whether a statement is valid but for its depth.
func formed(s api.Statement) bool {
	return (selectFormed(s) || setFormed(s)) && every(terms(s), termFormed) && every(statements(s), formed)
}

func selectFormed(s api.Statement) bool {
	return s.Form == api.FormSelect && !s.All && len(s.Kids) == 0 &&
		s.Star == (len(s.Items) == 0) && every(s.Items, itemFormed) &&
		sourceFormed(s.From) && every(s.Joins, joinFormed) &&
		len(s.Where) <= 1 && len(s.Having) <= 1
}

func setFormed(s api.Statement) bool {
	if s.Form < api.FormUnion || s.Form > api.FormIntersect || len(s.Kids) != 2 {
		return false
	}
	s.Form, s.All, s.Kids = 0, false, nil
	return Same(s, api.Statement{})
}

func itemFormed(i api.Item) bool {
	return nameOrNone(i.Name)
}

func nameOrNone(s string) bool {
	return s == "" || schema.Name(s)
}

func sourceFormed(s api.Source) bool {
	if len(s.Query) == 0 {
		return schema.Name(s.Table) && nameOrNone(s.Name)
	}
	return len(s.Query) == 1 && s.Table == "" && schema.Name(s.Name)
}

func joinFormed(j api.Joined) bool {
	conditions := 1
	if j.Kind == 0 {
		conditions = 0
	}
	return 0 <= j.Kind && j.Kind <= api.JoinAnti && len(j.On) == conditions && sourceFormed(j.Source)
}

// termFormed reports whether a term is valid but for its depth.
func termFormed(t api.Term) bool {
	return fieldsFormed(t) && takes(t, len(t.Kids)) && every(t.Kids, termFormed)
}

// fieldsFormed looks at all fields but Kids.
func fieldsFormed(t api.Term) bool {
	switch t.Op {
	case api.TermName:
		return t.Type == 0 && t.Num == 0 && schema.Name(t.Text) && nameOrNone(t.Qualifier)
	case api.TermAgg:
		return t.Type == 0 && api.AggRows <= t.Num && t.Num <= api.AggMax && t.Text == "" && t.Qualifier == ""
	case api.OpNull, api.OpInt, api.OpBool, api.OpText:
		_, err := expression.Type(nil, leaf(t))
		return err == api.OK && t.Qualifier == ""
	}
	_, ok := find(t.Op)
	return ok && t.Type == 0 && t.Num == 0 && t.Text == "" && t.Qualifier == ""
}

// leaf returns the expression that a term without names and Kids stands for.
func leaf(t api.Term) api.Expr {
	return api.Expr{Op: t.Op, Type: t.Type, Num: t.Num, Text: t.Text}
}

// takes reports whether a term may have so many Kids.
func takes(t api.Term, kids int) bool {
	if t.Op == api.TermAgg {
		return kids == 0 && t.Num == api.AggRows || kids == 1 && t.Num != api.AggRows
	}
	o, _ := find(t.Op)
	return kids == o.kids || kids > o.kids && t.Op == api.OpIn
}
