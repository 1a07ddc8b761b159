package schema

import (
	"math"
	"reflect"
	"slices"
	"testing"

	"querylab/api"
)

// refers returns a table with a key id, and a foreign key for each other table.
func refers(name string, others ...string) api.Table {
	t := api.Table{Name: name, Columns: []api.Column{{Name: "id", Type: api.Int}}, Primary: []int{0}}
	for i, o := range others {
		t.Columns = append(t.Columns, api.Column{Name: string(rune('p' + i)), Type: api.Int})
		t.Foreigns = append(t.Foreigns, api.Foreign{Columns: []int{i + 1}, Table: o})
	}
	return t
}

func tables(l ...api.Table) api.Schema { return api.Schema{Tables: l} }

func TestFind(t *testing.T) {
	s := tables(refers("a"), refers("b"), refers("a"), refers("c"), refers("B"), refers(""), refers("b"))
	for _, c := range []struct {
		s    api.Schema
		name string
		want int
		ok   bool
	}{
		{s, "a", 0, true}, {s, "b", 1, true}, {s, "c", 3, true}, {s, "B", 4, true}, {s, "", 5, true},
		{s, "d", 0, false}, {s, "A", 0, false}, {s, "ab", 0, false}, {s, "a ", 0, false},
		{tables(), "a", 0, false}, {tables(), "", 0, false}, {tables([]api.Table{}...), "a", 0, false},
	} {
		if got, ok := Find(c.s, c.name); got != c.want || ok != c.ok {
			t.Errorf("Find of %q is %d, %v", c.name, got, ok)
		}
	}
}

func TestColumn(t *testing.T) {
	var table api.Table
	for _, n := range []string{"x", "y", "x", "z", "", "X", "y"} {
		table.Columns = append(table.Columns, api.Column{Name: n, Type: api.Int})
	}
	table.Name = "t"
	for _, c := range []struct {
		table api.Table
		name  string
		want  int
		ok    bool
	}{
		{table, "x", 0, true}, {table, "y", 1, true}, {table, "z", 3, true}, {table, "", 4, true}, {table, "X", 5, true},
		{table, "t", 0, false}, {table, "xy", 0, false}, {table, "Z", 0, false},
		{api.Table{}, "x", 0, false}, {api.Table{}, "", 0, false},
	} {
		if got, ok := Column(c.table, c.name); got != c.want || ok != c.ok {
			t.Errorf("Column of %q is %d, %v", c.name, got, ok)
		}
	}
}

func TestTypes(t *testing.T) {
	want := []int{api.Text, api.Int, api.Bool, 7, 0, math.MinInt, api.Int}
	var table api.Table
	for i, n := range want {
		table.Columns = append(table.Columns, api.Column{Name: "x", Type: n, Nullable: i%2 == 0})
	}
	if got := Types(table); !slices.Equal(got, want) {
		t.Errorf("Types is %v", got)
	}
	for _, columns := range [][]api.Column{nil, {}} {
		if got := Types(api.Table{Columns: columns, Primary: []int{1}}); len(got) != 0 {
			t.Errorf("Types of no columns is %v", got)
		}
	}
}

func TestTypesMakesNewMemory(t *testing.T) {
	table := refers("a", "b")
	Types(table)[0] = api.Text
	if !reflect.DeepEqual(table, refers("a", "b")) || !slices.Equal(Types(table), []int{api.Int, api.Int}) {
		t.Errorf("the table was changed: %v", table)
	}
}

func TestTarget(t *testing.T) {
	s := tables(refers("a"), refers("b", "c", "a", "none", "b"), refers("c", "d"), refers("d"), refers("a"), refers("e", "", "e"))
	for _, c := range []struct {
		table, foreign, want int
		ok                   bool
	}{
		{1, 0, 2, true}, {1, 1, 0, true}, {1, 3, 1, true}, {2, 0, 3, true}, {5, 1, 5, true},
		{1, 2, 0, false}, {5, 0, 0, false}, // there is no such table
		{0, 0, 0, false}, {1, 4, 0, false}, {2, 1, 0, false}, {1, -1, 0, false}, {1, math.MinInt, 0, false}, {1, math.MaxInt, 0, false}, // there is no such foreign key
		{-1, 0, 0, false}, {6, 0, 0, false}, {math.MinInt, 0, 0, false}, {math.MaxInt, 0, 0, false}, {-1, -1, 0, false},
	} {
		if got, ok := Target(s, c.table, c.foreign); got != c.want || ok != c.ok {
			t.Errorf("Target of %d, %d is %d, %v", c.table, c.foreign, got, ok)
		}
	}
	if got, ok := Target(tables(), 0, 0); got != 0 || ok {
		t.Errorf("Target of no tables is %d, %v", got, ok)
	}
}
