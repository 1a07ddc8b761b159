package schema

import (
	"math"
	"reflect"
	"slices"
	"testing"

	"querylab/api"
)

func op(o int, kids ...api.Expr) api.Expr { return api.Expr{Op: o, Kids: kids} }

func col(n int) api.Expr { return api.Expr{Op: api.OpColumn, Column: n} }

// positive is a check of the first column.
func positive() api.Expr { return op(api.OpGt, col(0), api.Expr{Op: api.OpInt}) }

// full is a valid schema that is up to each of the limits.
func full() api.Schema {
	var s api.Schema
	for i := range api.MaxTables {
		s.Tables = append(s.Tables, refers(string(rune('a'+i))))
	}
	for i := range s.Tables {
		t := &s.Tables[i]
		t.Columns = append(t.Columns, []api.Column{
			{Name: "x", Type: api.Int}, {Name: "y", Type: api.Int, Nullable: true}, {Name: "z", Type: api.Int},
			{Name: "b", Type: api.Bool, Nullable: true}, {Name: "s", Type: api.Text}, {Name: "name_of_16_bytes", Type: api.Text, Nullable: true}, {Name: "a", Type: api.Bool},
		}...)
		t.Uniques = [][]int{{1, 2}, {7, 6, 5, 4, 3, 2, 1, 0}, {4}}
		t.Checks = []api.Expr{positive(), col(4), op(api.OpIsNull, col(6)), {Op: api.OpNull, Type: api.Bool}}
	}
	for i := 2; i < api.MaxTables; i++ {
		s.Tables[i].Foreigns = []api.Foreign{{Columns: []int{1}, Table: "a"}, {Columns: []int{2}, Table: "b"}, {Columns: []int{0}, Table: "a"}}
	}
	return s
}

func TestValidAccepts(t *testing.T) {
	// a key of several columns in another order, of other names, that overlaps with the primary key
	pair := tables(refers("a"), refers("b"))
	pair.Tables[0].Columns = []api.Column{{Name: "x", Type: api.Int}, {Name: "y", Type: api.Text}, {Name: "z", Type: api.Bool}}
	pair.Tables[0].Primary = []int{2, 0}
	pair.Tables[1].Columns = []api.Column{{Name: "i", Type: api.Int, Nullable: true}, {Name: "id", Type: api.Int}, {Name: "j", Type: api.Bool}}
	pair.Tables[1].Primary = []int{1, 2}
	pair.Tables[1].Foreigns = []api.Foreign{{Columns: []int{2, 0}, Table: "a"}, {Columns: []int{2, 1}, Table: "a"}, {Columns: []int{2, 0}, Table: "a"}}
	pair.Tables[1].Uniques = [][]int{{1, 2}, {1, 2}, {0}}
	for k, s := range []api.Schema{
		tables(), tables([]api.Table{}...), tables(refers("a")), full(), pair,
		tables(refers("a", "b"), refers("b")),
		tables(refers("id"), refers("p", "id", "id")),
	} {
		if err := Valid(s); err != api.OK {
			t.Errorf("schema %d: %d", k, err)
		}
	}
}

// wrong is a change that makes a schema not valid, and the error that Valid then returns.
type wrong struct {
	name   string
	change func(s *api.Schema)
	want   api.Errno
}

// wrongColumns lists what may be wrong with the columns of table i, in the order in which Valid looks at it.
func wrongColumns(i int) []wrong {
	var l []wrong
	for c := range api.MaxColumns {
		set := func(name string, want api.Errno, change func(c *api.Column)) {
			l = append(l, wrong{"column " + name, func(s *api.Schema) {
				if t := s.Tables[i]; c < len(t.Columns) {
					change(&t.Columns[c])
				}
			}, want})
		}
		set("empty name", api.ErrName, func(c *api.Column) { c.Name = "" })
		set("reserved name", api.ErrName, func(c *api.Column) { c.Name = "text" })
		if c > 0 {
			set("name twice", api.ErrDuplicate, func(c *api.Column) { c.Name = "id" })
		}
		set("type 0", api.ErrType, func(c *api.Column) { c.Type = api.Null })
		set("type 4", api.ErrType, func(c *api.Column) { c.Type = 4 })
		set("type -1", api.ErrType, func(c *api.Column) { c.Type = -1 })
	}
	return l
}

// wrongLists are lists of columns that are no keys of a table of the schema full, whose column 2 is nullable.
func wrongLists() [][]int {
	return [][]int{nil, {}, {8}, {-1}, {math.MinInt}, {math.MaxInt}, {0, 8}, {2, 8}, {0, 0}, {2, 2}, {1, 0, 1}, {0, 3, 1, 3}, {7, 6, 5, 4, 3, 2, 1, 0, 7}, {0, 1, 2, 3, 4, 5, 6, 7, 8}}
}

// wrongKeys lists what may be wrong with the keys of table i, in the order in which Valid looks at it.
func wrongKeys(i int) []wrong {
	var l []wrong
	for _, bad := range wrongLists() {
		l = append(l, wrong{"primary key", func(s *api.Schema) { s.Tables[i].Primary = bad }, api.ErrReference})
	}
	l = append(l,
		wrong{"nullable key", func(s *api.Schema) { s.Tables[i].Primary = []int{2} }, api.ErrType},
		wrong{"nullable part of a key", func(s *api.Schema) { s.Tables[i].Primary = []int{0, 4, 1} }, api.ErrType},
	)
	for _, bad := range wrongLists() {
		for k := range api.MaxUniques {
			l = append(l, wrong{"unique key", func(s *api.Schema) { s.Tables[i].Uniques[k] = bad }, api.ErrReference})
		}
	}
	for _, bad := range wrongLists() {
		for k := range len(full().Tables[i].Foreigns) {
			l = append(l, wrong{"foreign key", func(s *api.Schema) { s.Tables[i].Foreigns[k].Columns = bad }, api.ErrReference})
		}
	}
	return l
}

// wrongChecks lists what may be wrong with the checks of table i, in the order in which Valid looks at it.
func wrongChecks(i int) []wrong {
	deep := col(4)
	for range api.MaxDepth {
		deep = op(api.OpNot, deep)
	}
	var l []wrong
	for k := range api.MaxChecks {
		for _, c := range []struct {
			e    api.Expr
			want api.Errno
		}{
			{op(api.OpIn, slices.Repeat([]api.Expr{col(0)}, api.MaxNodes)...), api.ErrLimit},
			{deep, api.ErrDepth},
			{api.Expr{}, api.ErrInvalid},
			{op(api.OpNot), api.ErrArity},
			{col(8), api.ErrName},
			{col(-1), api.ErrName},
			{op(api.OpNot, col(0)), api.ErrType},
			{col(0), api.ErrType},
			{col(5), api.ErrType},
			{api.Expr{Op: api.OpNull, Type: api.Int}, api.ErrType},
		} {
			l = append(l, wrong{"check", func(s *api.Schema) { s.Tables[i].Checks[k] = c.e }, c.want})
		}
	}
	return l
}

// wrongTables lists what may be wrong with table i by itself, in the order in which Valid looks at it.
func wrongTables(i int) []wrong {
	one := func(name string, want api.Errno, change func(t *api.Table)) wrong {
		return wrong{name, func(s *api.Schema) { change(&s.Tables[i]) }, want}
	}
	l := []wrong{
		one("no name", api.ErrName, func(t *api.Table) { t.Name = "" }),
		one("reserved name", api.ErrName, func(t *api.Table) { t.Name = "values" }),
		one("long name", api.ErrName, func(t *api.Table) { t.Name = "name_of_17_bytes_" }),
	}
	if i > 0 {
		l = append(l, one("name twice", api.ErrDuplicate, func(t *api.Table) { t.Name = "a" }))
	}
	l = append(l,
		one("columns", api.ErrLimit, func(t *api.Table) { t.Columns = append(full().Tables[i].Columns, api.Column{}) }),
		one("uniques", api.ErrLimit, func(t *api.Table) { t.Uniques = append(t.Uniques, []int{5}) }),
		one("foreigns", api.ErrLimit, func(t *api.Table) { t.Foreigns = make([]api.Foreign, api.MaxForeigns+1) }),
		one("checks", api.ErrLimit, func(t *api.Table) { t.Checks = append(t.Checks, positive()) }),
		one("no columns", api.ErrArity, func(t *api.Table) { t.Columns = nil }),
		one("empty columns", api.ErrArity, func(t *api.Table) { t.Columns = []api.Column{} }),
	)
	return slices.Concat(l, wrongColumns(i), wrongKeys(i), wrongChecks(i))
}

// wrongTargets lists what may be wrong with what the foreign keys of table i name, in the order in which Valid looks at it.
func wrongTargets(i int) []wrong {
	var l []wrong
	for k := range len(full().Tables[i].Foreigns) {
		set := func(name string, want api.Errno, change func(f *api.Foreign)) {
			l = append(l, wrong{name, func(s *api.Schema) {
				if t := s.Tables[i]; k < len(t.Foreigns) {
					change(&t.Foreigns[k])
				}
			}, want})
		}
		set("missing table", api.ErrMissing, func(f *api.Foreign) { f.Table = "none" })
		set("no table", api.ErrMissing, func(f *api.Foreign) { f.Table = "" })
		set("too many columns", api.ErrReference, func(f *api.Foreign) { f.Columns = []int{1, 2} })
		set("another type", api.ErrReference, func(f *api.Foreign) { f.Columns = []int{7} })
	}
	return l
}

// allWrong lists what may be wrong with the schema full, in the order in which Valid looks at it.
func allWrong() []wrong {
	l := []wrong{{"tables", func(s *api.Schema) { s.Tables = append(s.Tables, api.Table{}) }, api.ErrLimit}}
	for i := range api.MaxTables {
		l = append(l, wrongTables(i)...)
	}
	for i := range api.MaxTables {
		l = append(l, wrongTargets(i)...)
	}
	return append(l, wrong{"circle", func(s *api.Schema) {
		s.Tables[0].Foreigns = append(s.Tables[0].Foreigns, api.Foreign{Columns: []int{1}, Table: "c"})
	}, api.ErrCycle})
}

func TestValidTellsEachError(t *testing.T) {
	for _, w := range allWrong() {
		s := full()
		w.change(&s)
		if got := Valid(s); got != w.want {
			t.Errorf("%s: %d", w.name, got)
		}
	}
}

// TestValidTellsTheFirstError makes two things wrong at a time, the later one first, so that the earlier one is wrong in any case.
func TestValidTellsTheFirstError(t *testing.T) {
	l := allWrong()
	for i, w := range l {
		for k := i + 1; k < len(l); k += 7 {
			s := full()
			l[k].change(&s)
			w.change(&s)
			if got := Valid(s); got != w.want {
				t.Fatalf("%s (%d) and %s (%d): %d, not %d", w.name, i, l[k].name, k, got, w.want)
			}
		}
	}
}

func TestValidComparesKeysColumnByColumn(t *testing.T) {
	s := tables(refers("a"), refers("b"))
	for i := range s.Tables {
		s.Tables[i].Columns = []api.Column{{Name: "i", Type: api.Int}, {Name: "s", Type: api.Text}, {Name: "k", Type: api.Int}}
	}
	s.Tables[0].Primary = []int{1, 2}
	for _, c := range []struct {
		columns []int
		want    api.Errno
	}{
		{[]int{1, 0}, api.OK}, {[]int{1, 2}, api.OK},
		{[]int{0, 1}, api.ErrReference}, {[]int{2, 1}, api.ErrReference}, {[]int{0, 2}, api.ErrReference}, {[]int{1}, api.ErrReference}, {[]int{0}, api.ErrReference}, {[]int{1, 0, 2}, api.ErrReference},
	} {
		s.Tables[1].Foreigns = []api.Foreign{{Columns: c.columns, Table: "a"}}
		if got := Valid(s); got != c.want {
			t.Errorf("%v: %d", c.columns, got)
		}
	}
}

func TestValidLooksForCirclesLast(t *testing.T) {
	other := refers("c", "a")
	other.Columns[1].Type = api.Text
	for k, c := range []struct {
		s    api.Schema
		want api.Errno
	}{
		{tables(refers("a", "a")), api.ErrCycle},
		{tables(refers("a", "b"), refers("b", "a")), api.ErrCycle},
		{tables(refers("a", "c"), refers("b", "a"), refers("c", "b")), api.ErrCycle},
		{tables(refers("a", "b"), refers("b", "a"), refers("c", "none")), api.ErrMissing},
		{tables(refers("a", "b"), refers("b", "a"), other), api.ErrReference},
		{tables(refers("d", "none"), refers("a"), other), api.ErrMissing},
		{tables(refers("a"), other, refers("d", "none")), api.ErrReference},
	} {
		if got := Valid(c.s); got != c.want {
			t.Errorf("schema %d: %d", k, got)
		}
	}
}

func TestValidSchemasHaveAnOrder(t *testing.T) {
	for n := range 4 {
		for bits := range 1 << (n * n) {
			s, _ := graph(n, bits)
			order, err := Order(s)
			if got := Valid(s); got != err {
				t.Fatalf("Valid of %v is %d, and Order has %d", s, got, err)
			}
			if err != api.OK {
				continue
			}
			for i, table := range s.Tables {
				for k := range table.Foreigns {
					if target, ok := Target(s, i, k); !ok || slices.Index(order, target) >= slices.Index(order, i) {
						t.Fatalf("Order of %v is %v", s, order)
					}
				}
			}
		}
	}
}

func TestValidLeavesArgumentsAlone(t *testing.T) {
	s := full()
	if Valid(s) != api.OK || !reflect.DeepEqual(s, full()) {
		t.Errorf("the schema was changed: %v", s)
	}
}
