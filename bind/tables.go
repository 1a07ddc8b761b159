package bind

import (
	"strings"

	"querylab/api"
	"querylab/naming"
	"querylab/schema"
	"querylab/sql"
	"querylab/syntax"
)

// definition is what a text says of a table.
type definition struct {
	name  string
	parts []part
}

// part is a part of a table: the word with which it begins, which is empty for a column, and what that word asks for.
type part struct {
	word    string
	column  api.Column
	columns []string
	table   string
	check   api.Term
}

// reader reads the parts of texts of schemas.
type reader struct{ *syntax.Reader }

func (r reader) definitions() []definition {
	var l []definition
	for r.Take("table") {
		l = append(l, definition{r.Name(), r.parts()})
		r.Expect(";")
	}
	return l
}

func (r reader) parts() []part {
	return syntax.Bracketed(r.Reader, func() []part { return syntax.List(r.Reader, r.part) })
}

func (r reader) part() part {
	words := partWords()
	i := r.Choose(words...)
	if i < 0 {
		return part{column: r.column()}
	}
	p := part{word: words[i]}
	if p.word == "check" {
		p.check = syntax.Bracketed(r.Reader, r.term)
		return p
	}
	p.columns = syntax.Bracketed(r.Reader, func() []string { return syntax.List(r.Reader, r.Name) })
	if p.word == "foreign" {
		r.Expect("references")
		p.table = r.Name()
	}
	return p
}

func (r reader) column() api.Column {
	c := api.Column{Name: r.Name()}
	t := r.Choose(typeWords()...)
	if t < 0 {
		r.Stop()
	}
	c.Type = api.Int + t
	c.Nullable = r.Take("null")
	return c
}

// term reads a term up to the token with which it cannot go on. One that is too deep becomes the zero term, which is not valid either.
func (r reader) term() api.Term {
	rest := r.Rest()
	if _, end, err := sql.ParseTerm(rest); err == api.ErrSyntax {
		rest = rest[:end]
	}
	t, _, err := sql.ParseTerm(rest)
	r.Skip(len(rest))
	if err == api.ErrSyntax {
		r.Stop()
	}
	return t
}

func partWords() []string {
	return []string{"primary", "unique", "foreign", "check"}
}

// typeWords are the words for Int, Bool and Text.
func typeWords() []string {
	return []string{"int", "bool", "text"}
}

// define returns the schema of these tables.
func define(l []definition) (api.Schema, api.Errno) {
	tables, err := each(l, tableOf)
	if err != api.OK {
		return api.Schema{}, err
	}
	s := api.Schema{Tables: tables}
	return s, schema.Valid(s)
}

// tableOf knows all columns before it looks at the other parts.
func tableOf(d definition) (api.Table, api.Errno) {
	t := api.Table{Name: d.name}
	for _, p := range d.parts {
		if p.word == "" {
			t.Columns = append(t.Columns, p.column)
		}
	}
	for _, p := range d.parts {
		if err := add(&t, p); err != api.OK {
			return api.Table{}, err
		}
	}
	return t, api.OK
}

// add adds a key or a check to a table that has its columns.
func add(t *api.Table, p part) api.Errno {
	if p.word == "primary" && len(t.Primary) > 0 {
		return api.ErrDuplicate
	}
	columns, err := each(p.columns, func(name string) (int, api.Errno) { return columnNumber(*t, name) })
	if err != api.OK {
		return err
	}
	switch p.word {
	case "primary":
		t.Primary = columns
	case "unique":
		t.Uniques = append(t.Uniques, columns)
	case "foreign":
		t.Foreigns = append(t.Foreigns, api.Foreign{Columns: columns, Table: p.table})
	case "check":
		return addCheck(t, p.check)
	}
	return api.OK
}

func columnNumber(t api.Table, name string) (int, api.Errno) {
	i, ok := schema.Column(t, name)
	if !ok {
		return 0, api.ErrName
	}
	return i, api.OK
}

func addCheck(t *api.Table, check api.Term) api.Errno {
	e, err := Term(t.Columns, check)
	if err == api.OK {
		t.Checks = append(t.Checks, e)
	}
	return err
}

// tableText returns the text of a table of a valid schema.
func tableText(t api.Table) string {
	var parts []string
	for _, c := range t.Columns {
		parts = append(parts, columnText(c))
	}
	parts = append(parts, "primary "+columnsText(t, t.Primary))
	for _, u := range t.Uniques {
		parts = append(parts, "unique "+columnsText(t, u))
	}
	for _, f := range t.Foreigns {
		parts = append(parts, "foreign "+columnsText(t, f.Columns)+" references "+f.Table)
	}
	for _, e := range t.Checks {
		check := naming.Term(e, columnsOf("", names(t)).reference)
		parts = append(parts, "check ("+sql.TermText(check)+")")
	}
	return "table " + t.Name + " (" + strings.Join(parts, ", ") + ");\n"
}

func columnText(c api.Column) string {
	text := c.Name + " " + typeWords()[c.Type-api.Int]
	if c.Nullable {
		text += " null"
	}
	return text
}

func columnsText(t api.Table, columns []int) string {
	var l []string
	for _, c := range columns {
		l = append(l, t.Columns[c].Name)
	}
	return "(" + strings.Join(l, ", ") + ")"
}
