package region

import (
	"math"
	"math/rand/v2"
	"reflect"
	"slices"
	"testing"

	"querylab/api"
	"querylab/expression"
	"querylab/integrity"
	"querylab/schema"
	"querylab/value"
)

// allRegions returns the regions of all tables, those of parents first.
func allRegions(t *testing.T, s api.Schema, atoms [][]api.Atom) [][]api.Region {
	t.Helper()
	all := make([][]api.Region, len(s.Tables))
	order, _ := schema.Order(s)
	for _, k := range order {
		var parents [][]api.Region
		for f := range s.Tables[k].Foreigns {
			target, _ := schema.Target(s, k, f)
			parents = append(parents, all[target])
		}
		var err api.Errno
		if all[k], err = Regions(s, k, atoms[k], parents); err != api.OK {
			t.Fatalf("the regions of %s: %d", s.Tables[k].Name, err)
		}
	}
	return all
}

// goods is a valid instance of the shop.
func goods() api.Instance {
	return api.Instance{Tables: [][]row{
		{
			{num(7), num(1), yes, num(10), num(2), text("x")},
			{null, num(2), null, num(11), num(2), text("y")},
			{num(4), num(3), no, num(12), num(1), text("x")},
		},
		{{num(30), num(1), num(6)}, {num(17), num(2), num(5)}, {num(18), num(3), num(7)}},
		{{num(5), text("Ulm"), yes}, {num(6), null, no}, {num(7), text("Bonn"), yes}},
	}}
}

func TestOf(t *testing.T) {
	s, atoms, i := shop(), shopAtoms(), goods()
	all := allRegions(t, s, atoms)
	// of the cities: Ulm, others, null; a customer's region is 3 times its class (less than 18, others) plus that of its city
	for table, want := range [][]int{{((1*3+1)*2+0)*36 + 0*6 + 5, ((2*3+2)*2+1)*36 + 0*6 + 0, ((0*3+0)*2+0)*36 + 5*6 + 4}, {5, 0, 4}, {0, 2, 1}} {
		for n, region := range want {
			if got, ok := Of(s, i, all, atoms, table, n); !ok || got != region {
				t.Errorf("%d, %d: %d, %v, and not %d", table, n, got, ok, region)
			}
		}
	}
	if !reflect.DeepEqual(i, goods()) || !reflect.DeepEqual(atoms, shopAtoms()) || !reflect.DeepEqual(all, allRegions(t, s, atoms)) {
		t.Error("an argument was changed")
	}
	// longer lists than are needed
	i.Tables, all, atoms = append(i.Tables, nil), append(all, nil), append(atoms, nil)
	if got, ok := Of(s, i, all, atoms, customers, 2); !ok || got != 4 {
		t.Error(got, ok)
	}
}

func TestOfTakesTheFirst(t *testing.T) {
	s, atoms, i := shop(), shopAtoms(), goods()
	all := allRegions(t, s, atoms)
	// of two rows with one key the first one is referenced, and of two regions that are alike the first one counts
	i.Tables[cities] = append(i.Tables[cities], row{num(6), text("Ulm"), yes})
	all[customers] = append(all[customers], all[customers]...)
	all[customers][5].Sample = nil
	if got, ok := Of(s, i, all, atoms, customers, 0); !ok || got != 5 {
		t.Error(got, ok)
	}
	i.Tables[cities] = append([]row{{num(6), text("Ulm"), yes}}, i.Tables[cities]...)
	if got, ok := Of(s, i, all, atoms, customers, 0); !ok || got != 3 {
		t.Error(got, ok)
	}
	// the references of both keys, in their order
	all[orders] = []api.Region{{Truth: []int{0, 1, 1}, Parents: []int{3, 0}}, {Truth: []int{0, 1, 1}, Parents: []int{0, 3}}}
	if got, ok := Of(s, i, all, atoms, orders, 0); !ok || got != 1 {
		t.Error(got, ok)
	}
}

func TestOfWithoutRegion(t *testing.T) {
	type arguments struct {
		s          api.Schema
		i          api.Instance
		regions    [][]api.Region
		atoms      [][]api.Atom
		table, row int
	}
	for name, change := range map[string]func(a *arguments){
		"not plain":                 func(a *arguments) { a.s.Tables[cities].Uniques = [][]int{{1}} },
		"not valid":                 func(a *arguments) { a.s.Tables[cities].Name = "orders" },
		"no schema":                 func(a *arguments) { a.s = api.Schema{} },
		"no table":                  func(a *arguments) { a.table = 3 },
		"no table but rows":         func(a *arguments) { a.table, a.i.Tables = 3, append(a.i.Tables, a.i.Tables[0]) },
		"no table but all":          func(a *arguments) { a.table = 3; longer(&a.i, &a.regions, &a.atoms) },
		"negative table":            func(a *arguments) { a.table = -1 },
		"no row":                    func(a *arguments) { a.row = 3 },
		"negative row":              func(a *arguments) { a.row = -1 },
		"greatest row":              func(a *arguments) { a.row = math.MaxInt },
		"least row":                 func(a *arguments) { a.row = math.MinInt },
		"no instance":               func(a *arguments) { a.i = api.Instance{} },
		"instance too short":        func(a *arguments) { a.i.Tables = a.i.Tables[:2] },
		"instance of one":           func(a *arguments) { a.i.Tables = a.i.Tables[:1] },
		"empty table":               func(a *arguments) { a.i.Tables[customers] = nil },
		"regions too short":         func(a *arguments) { a.regions = a.regions[:2] },
		"regions of one":            func(a *arguments) { a.regions = a.regions[:1] },
		"no lists":                  func(a *arguments) { a.regions, a.atoms = nil, nil },
		"atoms too short":           func(a *arguments) { a.atoms = a.atoms[:2] },
		"no regions":                func(a *arguments) { a.regions[orders] = nil },
		"no regions of parents":     func(a *arguments) { a.regions[customers] = nil },
		"no regions of theirs":      func(a *arguments) { a.regions[cities] = nil },
		"other atoms":               func(a *arguments) { a.atoms[orders] = a.atoms[orders][:2] },
		"no atoms of parents":       func(a *arguments) { a.atoms[customers] = nil },
		"other truth":               func(a *arguments) { a.i.Tables[orders][0][2] = num(1); a.regions[orders] = a.regions[orders][:360] },
		"reference to nothing":      func(a *arguments) { a.i.Tables[orders][0][4] = num(9) },
		"other one to nothing":      func(a *arguments) { a.i.Tables[orders][0][1] = num(9) },
		"reference of a text":       func(a *arguments) { a.i.Tables[orders][0][4] = text("2") },
		"reference with a text":     func(a *arguments) { a.i.Tables[orders][0][4].Text = "2" },
		"null":                      func(a *arguments) { a.i.Tables[orders][0][4], a.i.Tables[customers][1][1] = null, null },
		"null that is not valid":    func(a *arguments) { a.i.Tables[orders][0][4].Kind, a.i.Tables[customers][1][1].Kind = 0, 0 },
		"parent to nothing":         func(a *arguments) { a.i.Tables[customers][1][2] = num(9) },
		"parent of a null":          func(a *arguments) { a.i.Tables[customers][1][2] = null },
		"row too short":             func(a *arguments) { a.i.Tables[orders][0] = a.i.Tables[orders][0][:4] },
		"empty row":                 func(a *arguments) { a.i.Tables[orders][0] = nil },
		"empty parent":              func(a *arguments) { a.i.Tables[customers][1] = nil },
		"parent without its key":    func(a *arguments) { a.i.Tables[customers][1] = a.i.Tables[customers][1][:1] },
		"parent without reference":  func(a *arguments) { a.i.Tables[customers][1] = a.i.Tables[customers][1][:2] },
		"truths and one more":       func(a *arguments) { a.regions[orders] = []api.Region{{Truth: []int{0, 1, 1, 1}, Parents: []int{0, 5}}} },
		"truths and one less":       func(a *arguments) { a.regions[orders] = []api.Region{{Truth: []int{0, 1}, Parents: []int{0, 5}}} },
		"parents in another order":  func(a *arguments) { a.regions[orders] = []api.Region{{Truth: []int{0, 1, 1}, Parents: []int{5, 0}}} },
		"parents and one more":      func(a *arguments) { a.regions[orders] = []api.Region{{Truth: []int{0, 1, 1}, Parents: []int{0, 5, 0}}} },
		"parents and one less":      func(a *arguments) { a.regions[orders] = []api.Region{{Truth: []int{0, 1, 1}, Parents: []int{0}}} },
		"first region of none":      func(a *arguments) { a.regions[orders] = make([]api.Region, 3) },
		"primary key of the orders": func(a *arguments) { a.i.Tables[orders][0][4] = num(10) },
	} {
		a := arguments{shop(), goods(), allRegions(t, shop(), shopAtoms()), shopAtoms(), orders, 0}
		if _, ok := Of(a.s, a.i, a.regions, a.atoms, a.table, a.row); !ok {
			t.Fatal("the row has no region")
		}
		change(&a)
		if got, ok := Of(a.s, a.i, a.regions, a.atoms, a.table, a.row); ok || got != 0 {
			t.Errorf("%s: %d, %v", name, got, ok)
		}
	}
}

// longer gives a table more to all lists than the schema has.
func longer(i *api.Instance, regions *[][]api.Region, atoms *[][]api.Atom) {
	i.Tables = append(i.Tables, i.Tables[cities])
	*regions, *atoms = append(*regions, (*regions)[cities]), append(*atoms, (*atoms)[cities])
}

// TestOfOddRows has rows that no valid instance has: what they lack is null, and their values are taken as they are.
func TestOfOddRows(t *testing.T) {
	s, atoms, i := shop(), shopAtoms(), goods()
	all := allRegions(t, s, atoms)
	i.Tables[orders][0] = i.Tables[orders][0][:5]
	all[orders] = append(all[orders], api.Region{Truth: []int{0, 1, 2}, Parents: []int{0, 5}})
	if got, ok := Of(s, i, all, atoms, orders, 0); !ok || got != len(all[orders])-1 {
		t.Error(got, ok)
	}
	i.Tables[customers][1][1], i.Tables[orders][0][4] = text("a"), text("a")
	if got, ok := Of(s, i, all, atoms, orders, 0); !ok || got != len(all[orders])-1 {
		t.Error(got, ok)
	}
	// atoms that suit no table have truths, too
	atoms[cities] = []api.Atom{atom(0, api.OpGt, num(5)), atom(9, api.OpIsNull, null), atom(1, api.OpAnd, num(1)), atom(0, api.OpSame, num(6)), atom(-1, api.OpColumn, null)}
	all[cities] = []api.Region{{Truth: []int{0, 1, 2, 0, 2}}, {Truth: []int{1, 1, 2, 1, 2}}}
	for n, want := range []int{0, 1} {
		if got, ok := Of(s, i, all, atoms, cities, n); !ok || got != want {
			t.Error(n, got, ok)
		}
	}
	if got, ok := Of(s, i, all, atoms, cities, 2); ok {
		t.Error(got, ok)
	}
}

// randomSchema returns a plain schema whose checks consist of atoms, and its atoms, those of the checks among them.
func randomSchema(r *rand.Rand) (api.Schema, [][]api.Atom) {
	s := shop()
	s.Tables = append(s.Tables, api.Table{
		Name:     "marks",
		Columns:  []api.Column{{Name: "order_id", Type: api.Int}, {Name: "id", Type: api.Int}, {Name: "city_id", Type: api.Int}, {Name: "mark", Type: api.Int, Nullable: true}},
		Primary:  []int{1},
		Foreigns: []api.Foreign{{Columns: []int{2}, Table: "cities"}, {Columns: []int{0}, Table: "customers"}},
	})
	atoms := make([][]api.Atom, len(s.Tables))
	for k, t := range s.Tables {
		l := suiting(t, num(3), num(4), no, text("x"))
		for range r.IntN(3) {
			atoms[k] = append(atoms[k], l[r.IntN(len(l))])
		}
		if r.IntN(2) == 0 {
			e := predicate(r, l, 1)
			more, _ := Atoms(t, e)
			s.Tables[k].Checks, atoms[k] = []api.Expr{e}, append(atoms[k], more...)
		}
		slices.SortFunc(atoms[k], Compare)
		atoms[k] = slices.Compact(atoms[k])
	}
	return s, atoms
}

// randomInstance returns an instance of a plain schema that is valid.
func randomInstance(t *testing.T, r *rand.Rand, s api.Schema) api.Instance {
	t.Helper()
	i := api.Instance{Tables: make([][]row, len(s.Tables))}
	order, _ := schema.Order(s)
	for _, k := range order {
		for n := range int64(12) {
			var x row
			for _, c := range s.Tables[k].Columns {
				l := probes(c)
				x = append(x, l[r.IntN(len(l))])
			}
			x[s.Tables[k].Primary[0]] = num(-n)
			whole := true
			for f, key := range s.Tables[k].Foreigns {
				target, _ := schema.Target(s, k, f)
				rows := i.Tables[target]
				if whole = whole && len(rows) > 0; whole {
					x[key.Columns[0]] = rows[r.IntN(len(rows))][s.Tables[target].Primary[0]]
				}
			}
			if whole && !forbidden(s.Tables[k], x) {
				i.Tables[k] = append(i.Tables[k], x)
			}
		}
	}
	if !integrity.Valid(s, i) {
		t.Fatalf("not valid: %v", i)
	}
	return i
}

// TestEachRowOfValidInstancesHasOneRegion also looks at the sample and at the parents of the region.
func TestEachRowOfValidInstancesHasOneRegion(t *testing.T) {
	r := rand.New(rand.NewPCG(3, 13))
	looked := 0
	for range 150 {
		s, atoms := randomSchema(r)
		if limited(s, atoms) {
			continue
		}
		all, i := allRegions(t, s, atoms), randomInstance(t, r, s)
		for k := range s.Tables {
			for n, x := range i.Tables[k] {
				got, ok := Of(s, i, all, atoms, k, n)
				if !ok {
					t.Fatalf("%v of %v has no region among %v", x, s.Tables[k], all[k])
				}
				looked++
				mine := all[k][got]
				for place, a := range atoms[k] {
					if want := value.Truth(expression.Eval(Expr(a), x)); mine.Truth[place] != want || value.Truth(expression.Eval(Expr(a), mine.Sample)) != want {
						t.Fatalf("%v of %v lies in %v", x, atoms[k], mine)
					}
				}
				checkParents(t, s, i, all, atoms, k, x, mine.Parents)
			}
			checkDifferent(t, all[k])
		}
	}
	if looked < 2000 {
		t.Error(looked)
	}
}

// limited reports whether there might be more regions than Regions returns.
func limited(s api.Schema, atoms [][]api.Atom) bool {
	sizes := make([]int, len(s.Tables))
	order, _ := schema.Order(s)
	for _, k := range order {
		sizes[k] = 1
		for c, column := range s.Tables[k].Columns {
			sizes[k] *= len(Classes(column, c, atoms[k]))
		}
		for f := range s.Tables[k].Foreigns {
			target, _ := schema.Target(s, k, f)
			sizes[k] *= sizes[target]
		}
		if sizes[k] > api.MaxCells {
			return true
		}
	}
	return false
}

func checkParents(t *testing.T, s api.Schema, i api.Instance, all [][]api.Region, atoms [][]api.Atom, table int, x row, parents []int) {
	t.Helper()
	for f, key := range s.Tables[table].Foreigns {
		target, _ := schema.Target(s, table, f)
		n := slices.IndexFunc(i.Tables[target], func(y row) bool { return y[s.Tables[target].Primary[0]] == x[key.Columns[0]] })
		if got, ok := Of(s, i, all, atoms, target, n); !ok || got != parents[f] {
			t.Fatalf("%v references a row in %d, and not in %v", x, got, parents)
		}
	}
}

func checkDifferent(t *testing.T, regions []api.Region) {
	t.Helper()
	for n, a := range regions {
		for _, b := range regions[:n] {
			if slices.Equal(a.Truth, b.Truth) && slices.Equal(a.Parents, b.Parents) {
				t.Fatalf("%v is %v", a, b)
			}
		}
	}
}
