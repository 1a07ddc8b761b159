package integrity

import (
	"math/rand/v2"
	"reflect"
	"slices"
	"testing"

	"querylab/api"
	"querylab/schema"
)

// wide has six tables, keys of all columns in another order than the table's, and three foreign keys to one table.
func wide() api.Schema {
	types := []int{api.Bool, api.Int, api.Bool, api.Bool, api.Bool, api.Bool, api.Bool, api.Bool}
	var columns, free []api.Column
	for k, t := range types {
		columns = append(columns, api.Column{Name: string(rune('a' + k)), Type: t, Nullable: k == 1})
		free = append(free, api.Column{Name: string(rune('a' + k)), Type: t, Nullable: k > 0})
	}
	all := []int{7, 0, 6, 2, 5, 3, 4}
	one := func(name string, others ...string) api.Table {
		t := api.Table{Name: name, Columns: free, Primary: []int{0}}
		for k, o := range others {
			t.Foreigns = append(t.Foreigns, api.Foreign{Columns: []int{2 + k}, Table: o})
		}
		return t
	}
	last := api.Table{Name: "f", Columns: columns, Primary: all, Uniques: [][]int{{1}, {0, 1, 2, 3, 4, 5, 6, 7}}}
	first := one("a", "c", "c", "c")
	first.Uniques = [][]int{{3, 4}, {7, 6, 5}, {1}}
	third := one("c", "e", "b")
	third.Foreigns = append(third.Foreigns, api.Foreign{Columns: all, Table: "f"})
	third.Checks = []api.Expr{column(6), op(api.OpNe, column(2), column(3)), op(api.OpIsNull, column(1))}
	return api.Schema{Tables: []api.Table{first, one("b"), third, one("d", "b", "c", "a"), one("e"), last}}
}

// maker makes random instances of a schema. One of rare values and one of rare rows does not fit, none at all if rare is 0.
type maker struct {
	*rand.Rand
	schema api.Schema
	rare   int
}

func (m maker) happens() bool {
	return m.rare > 0 && m.IntN(m.rare) == 0
}

func (m maker) value(c api.Column) api.Value {
	if m.happens() {
		l := append(unfit(), num(1), truth(1), text("red"))
		return l[m.IntN(len(l))]
	}
	if m.IntN(6) == 0 && (c.Nullable || m.IntN(4) == 0) {
		return null
	}
	switch c.Type {
	case api.Int:
		return num(m.Int64N(6))
	case api.Bool:
		return truth(m.Int64N(2))
	}
	return text([]string{"", "red", "black"}[m.IntN(3)])
}

func (m maker) instance() api.Instance {
	var i api.Instance
	for _, t := range m.schema.Tables {
		var rows []row
		for range m.IntN(7) {
			var r row
			for _, c := range t.Columns {
				r = append(r, m.value(c))
			}
			if m.happens() {
				r = append(r, null)[:m.IntN(len(r)+2)]
			}
			rows = append(rows, r)
		}
		i.Tables = append(i.Tables, rows)
	}
	return i
}

// forInstances hands random instances of both schemas to a function, with what is wrong with them by the reference.
func forInstances(seed uint64, number int, f func(s api.Schema, i api.Instance, want []api.Violation)) {
	r := rand.New(rand.NewPCG(seed, 9))
	for n := range number {
		m := maker{r, shop(), []int{0, 60, 300}[n%3]}
		if n%4 == 0 {
			m.schema = wide()
		}
		i := m.instance()
		x := reference{schema: m.schema, instance: i}
		f(m.schema, i, x.violations())
	}
}

func TestViolationsAreWhatTheChapterSays(t *testing.T) {
	kinds, valid := map[int]int{}, 0
	forInstances(1, 20000, func(s api.Schema, i api.Instance, want []api.Violation) {
		got, err := Violations(s, i)
		if err != api.OK || !slices.Equal(got, want) {
			t.Fatalf("%v has %v, %d, and not %v", i, got, err, want)
		}
		if Valid(s, i) != (len(want) == 0) {
			t.Fatalf("%v with %v: Valid is %v", i, want, len(want) > 0)
		}
		for _, v := range got {
			kinds[v.Kind]++
		}
		if len(want) == 0 {
			valid++
		}
	})
	for k := api.BadArity; k <= api.BadCheck; k++ {
		if kinds[k] < 500 {
			t.Errorf("kind %d has been found %d times", k, kinds[k])
		}
	}
	if valid < 20 {
		t.Errorf("%d instances were valid", valid)
	}
}

func TestValidDoesNotDependOnTheOrderOfRows(t *testing.T) {
	r := rand.New(rand.NewPCG(2, 9))
	forInstances(2, 6000, func(s api.Schema, i api.Instance, want []api.Violation) {
		for _, rows := range i.Tables {
			r.Shuffle(len(rows), func(a, b int) { rows[a], rows[b] = rows[b], rows[a] })
		}
		if Valid(s, i) != (len(want) == 0) {
			t.Fatalf("%v: Valid is %v", i, len(want) > 0)
		}
	})
}

func TestInstancesWithoutRowsAreValid(t *testing.T) {
	for _, s := range []api.Schema{{}, shop(), wide()} {
		if err := schema.Valid(s); err != api.OK {
			t.Fatalf("schema of %d tables: %d", len(s.Tables), err)
		}
		none, empty := api.Instance{}, api.Instance{Tables: [][]row{}}
		for range s.Tables {
			none.Tables = append(none.Tables, nil)
			empty.Tables = append(empty.Tables, []row{})
		}
		if !Valid(s, none) || !Valid(s, empty) {
			t.Errorf("schema of %d tables: an instance without rows is not valid", len(s.Tables))
		}
	}
}

// roomy returns the instance in memory with room behind each list, to which an append would write.
func roomy(i api.Instance) api.Instance {
	room := make([][]row, 0, len(i.Tables)+2)
	for _, rows := range i.Tables {
		l := make([]row, 0, len(rows)+2)
		for _, r := range rows {
			l = append(l, append(make(row, 0, len(r)+2), r...))
		}
		room = append(room, l)
	}
	return api.Instance{Tables: room}
}

// whole returns the lists of an instance with what lies behind them.
func whole(i api.Instance) [][]row {
	var all [][]row
	for _, rows := range i.Tables[:cap(i.Tables)] {
		var l []row
		for _, r := range rows[:cap(rows)] {
			l = append(l, slices.Clone(r[:cap(r)]))
		}
		all = append(all, l)
	}
	return all
}

func TestArgumentsAreLeftAloneAndNothingIsKept(t *testing.T) {
	forInstances(3, 2000, func(s api.Schema, i api.Instance, want []api.Violation) {
		i = roomy(i)
		before, same := whole(i), shop()
		if len(s.Tables) > len(same.Tables) {
			same = wide()
		}
		got, _ := Violations(s, i)
		for k := range got {
			got[k] = api.Violation{Kind: 9}
		}
		_ = append(got, api.Violation{Kind: 9})
		Valid(s, i)
		if !reflect.DeepEqual(whole(i), before) || !reflect.DeepEqual(s, same) {
			t.Fatalf("an argument was changed: %v, %v", s, i)
		}
		if again, err := Violations(s, i); err != api.OK || !slices.Equal(again, want) {
			t.Fatalf("asked again, %v has %v, %d", i, again, err)
		}
	})
}
