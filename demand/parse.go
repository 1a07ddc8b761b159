package demand

import (
	"slices"
	"strconv"
	"strings"

	"querylab/api"
	"querylab/naming"
	"querylab/region"
	"querylab/schema"
	"querylab/sql"
)

// Parse is P14.5.
func Parse(s api.Schema, text string) ([]api.Demand, int, api.Errno) {
	if !region.Plain(s) {
		return nil, 0, api.ErrInvalid
	}
	if len(text) > api.MaxSource {
		return nil, 0, api.ErrLimit
	}
	lines := strings.Split(text, "\n")
	if filled(lines) > api.MaxDemands {
		return nil, 0, api.ErrLimit
	}
	var all []api.Demand
	for k, line := range lines {
		if line == "" {
			continue
		}
		d, err := demandOf(s, line)
		if err != api.OK {
			return nil, k + 1, err
		}
		all = append(all, d)
	}
	return all, 0, api.OK
}

// filled returns the number of lines that are not empty.
func filled(lines []string) int {
	n := 0
	for _, line := range lines {
		if line != "" {
			n++
		}
	}
	return n
}

// demandOf returns the demand of a line.
func demandOf(s api.Schema, line string) (api.Demand, api.Errno) {
	p, ok := split(line)
	if !ok {
		return api.Demand{}, api.ErrSyntax
	}
	rows, err := strconv.Atoi(p.rows)
	if err != nil || rows > api.MaxScale { // err is that an int cannot hold the number
		return api.Demand{}, api.ErrLimit
	}
	v, errno := viewOf(s, p)
	return api.Demand{View: v, Rows: rows}, errno
}

func viewOf(s api.Schema, p parts) (api.View, api.Errno) {
	v, err := chainOf(s, p.table, p.foreigns)
	if err != api.OK {
		return api.View{}, err
	}
	for _, text := range p.terms {
		cond, err := conditionOf(text, namesOf(s, v))
		if err != api.OK {
			return api.View{}, err
		}
		v.Cond = append(v.Cond, cond)
	}
	return v, Valid(s, v)
}

// chainOf returns the view that begins with a table, and goes on by the foreign keys with these columns.
func chainOf(s api.Schema, name string, foreigns []string) (api.View, api.Errno) {
	table, ok := schema.Find(s, name)
	if !ok {
		return api.View{}, api.ErrMissing
	}
	v := api.View{Table: name}
	for _, name := range foreigns {
		t := s.Tables[table]
		foreign := slices.IndexFunc(t.Foreigns, func(f api.Foreign) bool { return t.Columns[f.Columns[0]].Name == name })
		if foreign < 0 {
			return api.View{}, api.ErrReference
		}
		v.Path = append(v.Path, foreign)
		table, _ = schema.Target(s, table, foreign)
	}
	return v, api.OK
}

func conditionOf(text string, l names) (api.Expr, api.Errno) {
	t, _, err := sql.ParseTerm(text)
	if err != api.OK {
		return api.Expr{}, err
	}
	return naming.Expr(t, l.find)
}

// parts are those of a line: the number, the table, the columns of foreign keys, and none or one term.
type parts struct {
	rows     string
	table    string
	foreigns []string
	terms    []string
}

// split returns the parts of a line, and whether it has the form of one as far as the term.
func split(line string) (parts, bool) {
	head, term, conditional := strings.Cut(line, " where ")
	words := strings.Split(head, " ")
	if len(words) != 4 || words[0] != "rows" || !number(words[1]) || words[2] != "of" {
		return parts{}, false
	}
	chain := strings.Split(words[3], ".")
	p := parts{rows: words[1], table: chain[0], foreigns: chain[1:]}
	if conditional {
		p.terms = []string{term}
	}
	return p, !slices.ContainsFunc(chain, func(name string) bool { return !schema.Name(name) })
}

// number reports whether a text is a number without leading zeros, however large.
func number(s string) bool {
	return s == "0" || s != "" && s[0] != '0' && strings.Trim(s, "0123456789") == ""
}
