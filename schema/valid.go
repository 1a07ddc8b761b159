package schema

import (
	"slices"

	"querylab/api"
	"querylab/expression"
)

// Valid is P3.3.
func Valid(s api.Schema) api.Errno {
	if len(s.Tables) > api.MaxTables {
		return api.ErrLimit
	}
	for i, t := range s.Tables {
		same, _ := Find(s, t.Name)
		if err := nameError(t.Name, same < i); err != api.OK {
			return err
		}
		if err := tableError(t); err != api.OK {
			return err
		}
	}
	if err := targetError(s); err != api.OK {
		return err
	}
	_, err := Order(s)
	return err
}

func nameError(name string, taken bool) api.Errno {
	if !Name(name) {
		return api.ErrName
	}
	if taken {
		return api.ErrDuplicate
	}
	return api.OK
}

// tableError looks at a table by itself, as the functions that it calls do.
func tableError(t api.Table) api.Errno {
	if len(t.Columns) > api.MaxColumns || len(t.Uniques) > api.MaxUniques || len(t.Foreigns) > api.MaxForeigns || len(t.Checks) > api.MaxChecks {
		return api.ErrLimit
	}
	if len(t.Columns) == 0 {
		return api.ErrArity
	}
	if err := columnError(t); err != api.OK {
		return err
	}
	if err := keyError(t); err != api.OK {
		return err
	}
	return checkError(t)
}

func columnError(t api.Table) api.Errno {
	for i, c := range t.Columns {
		same, _ := Column(t, c.Name)
		if err := nameError(c.Name, same < i); err != api.OK {
			return err
		}
		if c.Type != api.Int && c.Type != api.Bool && c.Type != api.Text {
			return api.ErrType
		}
	}
	return api.OK
}

func keyError(t api.Table) api.Errno {
	if !isKey(t, t.Primary) {
		return api.ErrReference
	}
	if slices.ContainsFunc(t.Primary, func(c int) bool { return t.Columns[c].Nullable }) {
		return api.ErrType
	}
	for _, u := range t.Uniques {
		if !isKey(t, u) {
			return api.ErrReference
		}
	}
	for _, f := range t.Foreigns {
		if !isKey(t, f.Columns) {
			return api.ErrReference
		}
	}
	return api.OK
}

// isKey reports whether a list has columns of the table, each at most once.
func isKey(t api.Table, columns []int) bool {
	for i, c := range columns {
		if c < 0 || c >= len(t.Columns) || slices.Contains(columns[:i], c) {
			return false
		}
	}
	return len(columns) > 0
}

func checkError(t api.Table) api.Errno {
	for _, c := range t.Checks {
		got, err := expression.Type(Types(t), c)
		if err != api.OK {
			return err
		}
		if got != api.Bool {
			return api.ErrType
		}
	}
	return api.OK
}

// targetError looks at what the foreign keys name. Each table by itself has no error.
func targetError(s api.Schema) api.Errno {
	for i, t := range s.Tables {
		for k, f := range t.Foreigns {
			target, ok := Target(s, i, k)
			if !ok {
				return api.ErrMissing
			}
			if !fits(t, f.Columns, s.Tables[target]) {
				return api.ErrReference
			}
		}
	}
	return api.OK
}

// fits reports whether columns of a table have the types of another table's primary key.
func fits(t api.Table, columns []int, other api.Table) bool {
	return slices.EqualFunc(columns, other.Primary, func(c, k int) bool {
		return t.Columns[c].Type == other.Columns[k].Type
	})
}
