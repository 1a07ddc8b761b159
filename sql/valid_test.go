package sql

import (
	"reflect"
	"slices"
	"strings"
	"testing"

	"querylab/api"
)

func unknownOps() []int {
	return []int{-1 << 63, -1, 0, api.OpColumn, api.OpIn + 1, 30, 39, 42, 99, 1<<32 + api.OpAdd, 1<<63 - 1}
}

func TestValidTermLooksAtNumbersOfKids(t *testing.T) {
	one, three := []int{11, 13, 21, 24, 25}, []int{26}
	kid := name("a")
	for o := api.OpNull; o <= api.OpIn; o++ {
		for n := range 6 {
			x := op(o, slices.Repeat([]api.Term{kid}, n)...)
			want := n == 2
			switch {
			case o == api.OpColumn:
				want = false
			case o < api.OpColumn:
				want = n == 0
				x.Type = map[bool]int{true: api.Int}[o == api.OpNull]
			case slices.Contains(one, o):
				want = n == 1
			case slices.Contains(three, o):
				want = n == 3
			case o == api.OpIn:
				want = n >= 2
			}
			if ValidTerm(x) != want {
				t.Errorf("operation %d with %d Kids: %v", o, n, !want)
			}
		}
	}
	for n := range 4 {
		kids := slices.Repeat([]api.Term{kid}, n)
		for fun := int64(-1); fun < 9; fun++ {
			if want := fun == 1 && n == 0 || fun > 1 && fun < 7 && n == 1; ValidTerm(agg(fun, kids...)) != want {
				t.Errorf("aggregate %d with %d Kids: %v", fun, n, !want)
			}
		}
		for _, o := range unknownOps() {
			if ValidTerm(op(o, kids...)) {
				t.Errorf("operation %d with %d Kids is valid", o, n)
			}
		}
		if x := op(api.TermName, kids...); n > 0 {
			x.Text = "a"
			if ValidTerm(x) {
				t.Error("a name with Kids is valid")
			}
		}
	}
	for _, fun := range []int64{-1 << 63, 1<<32 + 1, 1<<32 + 2, 1<<63 - 1} {
		if ValidTerm(agg(fun)) || ValidTerm(agg(fun, kid)) {
			t.Errorf("aggregate %d is valid", fun)
		}
	}
	if !ValidTerm(op(api.OpIn, slices.Repeat([]api.Term{kid}, 5000)...)) {
		t.Error("a long list is not valid")
	}
}

func TestValidTermLooksAtFields(t *testing.T) {
	allowed := map[int]string{api.OpNull: "Type", api.OpInt: "Num", api.OpBool: "Num", api.OpText: "Text", api.TermName: "Text Qualifier", api.TermAgg: "Num"}
	changes := map[string]func(x *api.Term){
		"Type": func(x *api.Term) { x.Type = api.Bool }, "Num": func(x *api.Term) { x.Num = 1 }, "Text": func(x *api.Term) { x.Text = "a" }, "Qualifier": func(x *api.Term) { x.Qualifier = "a" },
	}
	for _, x := range samples(name("a"), name("b"), name("c")) {
		if x.Op == api.TermAgg && x.Num != api.AggRows {
			continue
		}
		for field, change := range changes {
			y := x
			change(&y)
			if want := strings.Contains(allowed[x.Op], field); ValidTerm(y) != want {
				t.Errorf("%s with a %s: %v", TermText(x), field, !want)
			}
			if kid := op(api.OpCoalesce, name("a"), y); ValidTerm(kid) != ValidTerm(y) {
				t.Errorf("%s with a %s as a Kid: %v", TermText(x), field, !ValidTerm(y))
			}
		}
	}
}

func TestValidTermLooksAtValuesAndNames(t *testing.T) {
	full := strings.Repeat("a", api.MaxText)
	for _, c := range []struct {
		x    api.Term
		want bool
	}{
		{null(1), true}, {null(2), true}, {null(3), true}, {null(0), false}, {null(4), false}, {null(-1), false},
		{num(api.MaxInt), true}, {num(-api.MaxInt), true}, {num(api.MaxInt + 1), false}, {num(-api.MaxInt - 1), false}, {num(-1 << 63), false},
		{truth(0), true}, {truth(1), true}, {truth(2), false}, {truth(-1), false},
		{str(""), true}, {str(full), true}, {str(full + "a"), false}, {str("'"), false}, {str("\n"), false}, {str("\x7f"), false}, {str("~ "), true},
		{name("a"), true}, {name("abcdefghijklmnop"), true}, {name("abcdefghijklmnopq"), false}, {name(""), false}, {name("select"), false}, {name("A"), false}, {name("1"), false}, {name("a.b"), false}, {name("a "), false}, {name("_"), false},
		{dotted("t", "a"), true}, {dotted("t", ""), false}, {dotted("from", "a"), false}, {dotted("t", "from"), false}, {dotted("T", "a"), false}, {dotted("t.u", "a"), false}, {dotted("abcdefghijklmnopq", "a"), false},
	} {
		if ValidTerm(c.x) != c.want || ValidTerm(op(api.OpIsNull, c.x)) != c.want || ValidTerm(agg(api.AggMin, op(api.OpIn, num(1), num(2), c.x))) != c.want {
			t.Errorf("%v: %v", c.x, !c.want)
		}
		if got := TermText(c.x) != ""; got != c.want {
			t.Errorf("TermText of %v is %s", c.x, TermText(c.x))
		}
	}
}

func TestValidTermLooksAtDepth(t *testing.T) {
	for depth, want := range map[int]bool{1: true, 2: true, 23: true, 24: true, 25: false, 26: false, 60000: false} {
		if ValidTerm(chain(depth)) != want {
			t.Errorf("depth %d: %v", depth, !want)
		}
	}
	for n := range 3 {
		for depth, want := range map[int]bool{22: true, 23: true, 24: false} {
			kids := []api.Term{num(1), num(2), num(3)}
			kids[n] = chain(depth)
			if ValidTerm(op(api.OpCase, kids...)) != want || ValidTerm(op(api.OpIn, kids...)) != want {
				t.Errorf("Kid %d of depth %d: %v", n, depth, !want)
			}
		}
	}
	x := name("a")
	for range 200 {
		x = op(api.OpAdd, x, x)
	}
	if ValidTerm(x) || TermText(x) != "" {
		t.Error("a huge term is valid")
	}
}

// whole has something in every field that a select may have.
func whole() api.Statement {
	return api.Statement{
		Form: api.FormSelect, Distinct: true, Items: []api.Item{{Term: name("a")}, {Term: dotted("t", "b"), Name: "c"}}, From: named("t", "u"),
		Joins: []api.Joined{{Kind: api.JoinFull, Source: table("v"), On: []api.Term{op(api.OpNot, name("a"))}}, {Source: subquery(all("w"), "x")}},
		Where: []api.Term{op(api.OpOr, name("a"), name("b"))}, Group: []api.Term{name("a"), num(1)}, Having: []api.Term{agg(api.AggMax, name("a"))},
	}
}

func wholeSet() api.Statement {
	return api.Statement{Form: api.FormExcept, All: true, Kids: []api.Statement{whole(), all("t")}}
}

func TestValidTakesWhatIsLeftOut(t *testing.T) {
	for k, change := range []func(s *api.Statement){
		func(s *api.Statement) {}, func(s *api.Statement) { s.Distinct = false }, func(s *api.Statement) { s.Star, s.Items = true, nil }, func(s *api.Statement) { s.Star, s.Items = true, []api.Item{} }, func(s *api.Statement) { s.Items = s.Items[:1] },
		func(s *api.Statement) { s.From.Name = "" }, func(s *api.Statement) { s.From = subquery(whole(), "t") }, func(s *api.Statement) { s.From.Query = []api.Statement{} }, func(s *api.Statement) { s.Joins = nil }, func(s *api.Statement) { s.Joins = s.Joins[1:] }, func(s *api.Statement) { s.Joins = slices.Repeat(s.Joins, 50) },
		func(s *api.Statement) { s.Where = nil }, func(s *api.Statement) { s.Group = nil }, func(s *api.Statement) { s.Group = slices.Repeat(s.Group, 50) }, func(s *api.Statement) { s.Having = nil }, func(s *api.Statement) { s.Joins[1].On = []api.Term{} }, func(s *api.Statement) { s.Kids = []api.Statement{} },
		func(s *api.Statement) { s.Items = slices.Repeat(s.Items, 500) }, func(s *api.Statement) { s.Where[0] = agg(api.AggSum, agg(api.AggRows)) }, func(s *api.Statement) { s.Items[0].Name = "c" }, func(s *api.Statement) { *s = wholeSet() }, func(s *api.Statement) { *s = wholeSet(); s.All = false }, func(s *api.Statement) { *s = wholeSet(); s.Kids[1] = wholeSet() },
	} {
		s := whole()
		change(&s)
		if !Valid(s) || Text(s) == "" {
			t.Errorf("change %d is not valid", k)
		}
	}
}

// spoils are changes of a select that make it invalid.
func spoils() map[string]func(s *api.Statement) {
	l := map[string]func(s *api.Statement){
		"all": func(s *api.Statement) { s.All = true }, "kids": func(s *api.Statement) { s.Kids = []api.Statement{all("t")} }, "two kids": func(s *api.Statement) { s.Kids = []api.Statement{all("t"), all("t")} }, "star and items": func(s *api.Statement) { s.Star = true }, "no items": func(s *api.Statement) { s.Items = nil },
		"no source": func(s *api.Statement) { s.From = api.Source{} }, "name of no source": func(s *api.Statement) { s.From = named("", "a") },
		"no condition":        func(s *api.Statement) { s.Joins[0].On = nil },
		"two conditions":      func(s *api.Statement) { s.Joins[0].On = []api.Term{name("a"), name("a")} },
		"condition of cross":  func(s *api.Statement) { s.Joins[1].On = []api.Term{name("a")} },
		"kind below":          func(s *api.Statement) { s.Joins[0].Kind = -1 },
		"kind above":          func(s *api.Statement) { s.Joins[0].Kind = 7 },
		"kind below, without": func(s *api.Statement) { s.Joins[1].Kind = -1 },
		"kind above, without": func(s *api.Statement) { s.Joins[1].Kind = 7 },
		"two where":           func(s *api.Statement) { s.Where = slices.Repeat(s.Where, 2) },
		"two having":          func(s *api.Statement) { s.Having = slices.Repeat(s.Having, 2) },
	}
	for _, form := range []int{-1 << 63, -1, 0, 2, 3, 4, 5, 1<<63 - 1} {
		l["form "+strings.Repeat("x", form&7)] = func(s *api.Statement) { s.Form = form }
	}
	for place, source := range map[string]func(s *api.Statement) *api.Source{
		"from": func(s *api.Statement) *api.Source { return &s.From }, "join": func(s *api.Statement) *api.Source { return &s.Joins[0].Source }, "cross join": func(s *api.Statement) *api.Source { return &s.Joins[1].Source },
	} {
		for text, x := range map[string]api.Source{
			"none": {}, "reserved": table("table"), "upper": table("T"), "alias": named("t", "as"), "long alias": named("t", strings.Repeat("a", 17)), "both": {Table: "t", Query: []api.Statement{all("t")}, Name: "u"}, "no alias": subquery(all("t"), ""), "reserved alias": subquery(all("t"), "in"), "alias of a query with a sign": subquery(all("t"), "a b"),
			"two": {Query: []api.Statement{all("t"), all("t")}, Name: "u"}, "not valid": subquery(all("from"), "u"), "no statement": subquery(api.Statement{}, "u"),
		} {
			l[place+" "+text] = func(s *api.Statement) { *source(s) = x }
		}
	}
	for place, term := range map[string]func(s *api.Statement) *api.Term{
		"item": func(s *api.Statement) *api.Term { return &s.Items[1].Term }, "on": func(s *api.Statement) *api.Term { return &s.Joins[0].On[0] }, "where": func(s *api.Statement) *api.Term { return &s.Where[0] }, "group": func(s *api.Statement) *api.Term { return &s.Group[1] }, "having": func(s *api.Statement) *api.Term { return &s.Having[0] },
	} {
		for text, x := range map[string]api.Term{"zero": {}, "reserved": name("mod"), "number": num(api.MaxInt + 1), "column": op(api.OpColumn), "kids": op(api.OpAdd, num(1)), "within": op(api.OpNot, op(api.OpIn, num(1))), "deep": chain(24)} {
			l[place+" "+text] = func(s *api.Statement) { *term(s) = x }
		}
	}
	for _, n := range []string{"A", "select", "a b", "1", "abcdefghijklmnopq"} {
		l["item name "+n] = func(s *api.Statement) { s.Items[0].Name = n }
	}
	return l
}

func TestValidTellsEachFault(t *testing.T) {
	for text, spoil := range spoils() {
		s := whole()
		spoil(&s)
		places := []api.Statement{s, {Form: api.FormUnion, Kids: []api.Statement{s, all("t")}}, {Form: api.FormUnion, Kids: []api.Statement{all("t"), s}}, {Form: 1, Star: true, From: subquery(s, "q")}, all("t")}
		places[4].Joins = []api.Joined{{Source: subquery(s, "q")}}
		for n, x := range places {
			if Valid(x) || Text(x) != "" {
				t.Errorf("%s, place %d: valid", text, n)
			}
		}
	}
}

func TestValidTellsFaultsOfSets(t *testing.T) {
	for k, change := range []func(s *api.Statement){
		func(s *api.Statement) { s.Form = 0 }, func(s *api.Statement) { s.Form = 1 }, func(s *api.Statement) { s.Form = 5 }, func(s *api.Statement) { s.Form = -2 }, func(s *api.Statement) { s.Kids = nil }, func(s *api.Statement) { s.Kids = s.Kids[:1] }, func(s *api.Statement) { s.Kids = append(s.Kids, all("t")) },
		func(s *api.Statement) { s.Distinct = true }, func(s *api.Statement) { s.Star = true }, func(s *api.Statement) { s.Items = items(name("a")) }, func(s *api.Statement) { s.From = table("t") }, func(s *api.Statement) { s.From.Name = "t" }, func(s *api.Statement) { s.From = subquery(all("t"), "") }, func(s *api.Statement) { s.From = subquery(all("t"), "q") },
		func(s *api.Statement) { s.Joins = []api.Joined{{Source: table("t")}} }, func(s *api.Statement) { s.Joins = []api.Joined{{}} }, func(s *api.Statement) { s.Where = []api.Term{name("a")} }, func(s *api.Statement) { s.Group = []api.Term{name("a")} }, func(s *api.Statement) { s.Having = []api.Term{name("a")} },
	} {
		for form := api.FormUnion; form <= api.FormIntersect; form++ {
			s := wholeSet()
			s.Form = form
			change(&s)
			if Valid(s) || Text(s) != "" {
				t.Errorf("change %d of form %d is valid", k, form)
			}
		}
	}
}

// nest returns a statement of this depth, nested in one way.
func nest(depth int, around func(s api.Statement) api.Statement) api.Statement {
	s := all("t")
	for range depth - 1 {
		s = around(s)
	}
	return s
}

func TestValidLooksAtDepth(t *testing.T) {
	for k, around := range []func(s api.Statement) api.Statement{
		func(s api.Statement) api.Statement { return api.Statement{Form: 2, Kids: []api.Statement{s, all("t")}} },
		func(s api.Statement) api.Statement { return api.Statement{Form: 4, Kids: []api.Statement{all("t"), s}} },
		func(s api.Statement) api.Statement { return api.Statement{Form: 1, Star: true, From: subquery(s, "q")} },
		func(s api.Statement) api.Statement {
			x := all("t")
			x.Joins = []api.Joined{{Source: table("t")}, {Source: subquery(s, "q")}}
			return x
		},
		func(s api.Statement) api.Statement { return api.Statement{Form: 3, Kids: []api.Statement{s, s}} },
	} {
		for _, depth := range []int{1, 2, 12, 23, 24, 25, 26} {
			if k == 4 && depth > 12 && depth < 25 { // too large, though not too deep
				continue
			}
			if want := depth <= 24; Valid(nest(depth, around)) != want {
				t.Errorf("way %d, depth %d: %v", k, depth, !want)
			}
		}
		if Valid(nest(300, around)) {
			t.Errorf("way %d: a deep statement is valid", k)
		}
	}
	for k, put := range []func(s *api.Statement, x api.Term){
		func(s *api.Statement, x api.Term) { s.Items[1].Term = x }, func(s *api.Statement, x api.Term) { s.Joins[0].On[0] = x }, func(s *api.Statement, x api.Term) { s.Where[0] = x }, func(s *api.Statement, x api.Term) { s.Group[1] = x }, func(s *api.Statement, x api.Term) { s.Having[0] = x },
	} {
		for depth, want := range map[int]bool{22: true, 23: true, 24: false, 100: false} {
			s := whole()
			put(&s, chain(depth))
			if Valid(s) != want {
				t.Errorf("place %d, depth %d: %v", k, depth, !want)
			}
		}
	}
	x := whole()
	x.Where[0] = chain(23)
	if s := (api.Statement{Form: 2, Kids: []api.Statement{x, x}}); Valid(s) {
		t.Error("a term of depth 23 in a statement within another one is valid")
	}
}

func changesOfTerms() []func(x *api.Term) {
	return []func(x *api.Term){
		func(x *api.Term) { x.Op++ }, func(x *api.Term) { x.Type++ }, func(x *api.Term) { x.Num++ }, func(x *api.Term) { x.Text += "a" }, func(x *api.Term) { x.Qualifier += "a" },
		func(x *api.Term) { x.Kids = append(slices.Clone(x.Kids), api.Term{}) }, func(x *api.Term) { x.Kids = []api.Term{{Op: 77}} },
	}
}

func changesOfSources() []func(x *api.Source) {
	return []func(x *api.Source){
		func(x *api.Source) { x.Table += "a" }, func(x *api.Source) { x.Name += "a" }, func(x *api.Source) { x.Query = append(slices.Clone(x.Query), api.Statement{}) }, func(x *api.Source) { x.Query = []api.Statement{{Form: 77}} },
	}
}

func changesOfStatements() []func(s *api.Statement) {
	l := []func(s *api.Statement){
		func(s *api.Statement) { s.Form++ }, func(s *api.Statement) { s.All = !s.All }, func(s *api.Statement) { s.Distinct = !s.Distinct }, func(s *api.Statement) { s.Star = !s.Star },
		func(s *api.Statement) { s.Items = s.Items[:1] }, func(s *api.Statement) { s.Items[1].Name = "d" }, func(s *api.Statement) { slices.Reverse(s.Items) },
		func(s *api.Statement) { s.Joins = s.Joins[:1] }, func(s *api.Statement) { s.Joins[1].Kind++ }, func(s *api.Statement) { slices.Reverse(s.Joins) }, func(s *api.Statement) { s.Joins[0].On = nil },
		func(s *api.Statement) { s.Where = nil }, func(s *api.Statement) { s.Where = append(s.Where, api.Term{}) }, func(s *api.Statement) { s.Group = s.Group[:1] }, func(s *api.Statement) { slices.Reverse(s.Group) }, func(s *api.Statement) { s.Having = nil },
		func(s *api.Statement) { s.Kids = []api.Statement{{}} }, func(s *api.Statement) { s.Joins[1].Source.Query[0].From.Table = "W" },
	}
	for _, change := range changesOfTerms() {
		l = append(l, func(s *api.Statement) { change(&s.Items[1].Term) }, func(s *api.Statement) { change(&s.Joins[0].On[0]) }, func(s *api.Statement) { change(&s.Where[0]) }, func(s *api.Statement) { change(&s.Group[1]) }, func(s *api.Statement) { change(&s.Having[0]) })
	}
	for _, change := range changesOfSources() {
		l = append(l, func(s *api.Statement) { change(&s.From) }, func(s *api.Statement) { change(&s.Joins[0].Source) }, func(s *api.Statement) { change(&s.Joins[1].Source) })
	}
	return l
}

func TestSameComparesAllFields(t *testing.T) {
	set := func(a, b api.Statement) api.Statement { return api.Statement{Form: 2, Kids: []api.Statement{a, b}} }
	if !Same(whole(), whole()) || !Same(wholeSet(), wholeSet()) || !Same(api.Statement{}, api.Statement{}) || Same(whole(), wholeSet()) {
		t.Error("Same is wrong")
	}
	for k, change := range changesOfStatements() {
		a, b := whole(), whole()
		change(&b)
		if Same(a, b) || Same(b, a) || Same(set(a, a), set(a, b)) || Same(set(b, a), set(a, a)) || Same(all("t"), api.Statement{Form: 1, Star: true, From: subquery(b, "t")}) {
			t.Errorf("change %d: the statements are the same", k)
		}
		if !Same(b, b) || !Same(set(a, b), set(a, b)) {
			t.Errorf("change %d: a statement is not the same as itself", k)
		}
	}
	if Same(set(all("t"), all("u")), set(all("u"), all("t"))) {
		t.Error("the order of Kids is nothing")
	}
}

func TestSameTermComparesAllFields(t *testing.T) {
	for _, a := range append(samples(name("a"), name("b"), name("c")), api.Term{}, op(99, op(-1))) {
		if !SameTerm(a, a) {
			t.Errorf("%v is not the same as itself", a)
		}
		for k, change := range changesOfTerms() {
			b := a
			change(&b)
			if SameTerm(a, b) || SameTerm(b, a) || SameTerm(op(6, num(1), a), op(6, num(1), b)) || SameTerm(op(24, op(24, b)), op(24, op(24, a))) {
				t.Errorf("change %d of %v: the terms are the same", k, a)
			}
		}
	}
	if SameTerm(op(api.OpAdd, num(1), num(2)), op(api.OpAdd, num(2), num(1))) {
		t.Error("the order of Kids is nothing")
	}
}

func TestSameTakesNilAsEmpty(t *testing.T) {
	a := whole()
	a.Joins[0].Source.Query = []api.Statement{}
	a.From.Query = []api.Statement{}
	a.Joins[1].On = []api.Term{}
	a.Kids = []api.Statement{}
	a.Items[0].Term.Kids = []api.Term{}
	empty := api.Statement{Items: []api.Item{}, From: api.Source{Query: []api.Statement{}}, Joins: []api.Joined{}, Where: []api.Term{}, Group: []api.Term{}, Having: []api.Term{}, Kids: []api.Statement{}}
	if !Same(a, whole()) || !Same(whole(), a) || !Same(empty, api.Statement{}) || !Same(api.Statement{}, empty) || !SameTerm(op(1), api.Term{Op: 1, Kids: []api.Term{}}) || !SameTerm(api.Term{Op: 1, Kids: []api.Term{}}, op(1)) {
		t.Error("nil is not the same as empty")
	}
	set := wholeSet()
	set.Items, set.Joins, set.Where, set.Group, set.Having, set.From.Query = []api.Item{}, []api.Joined{}, []api.Term{}, []api.Term{}, []api.Term{}, []api.Statement{}
	if !Valid(a) || !Valid(set) || Text(a) != Text(whole()) || Text(set) != Text(wholeSet()) {
		t.Error("an empty list is not as none")
	}
}

func TestDeepTreesAreCompared(t *testing.T) {
	if !SameTerm(chain(60000), chain(60000)) || SameTerm(chain(60000), chain(59999)) {
		t.Error("SameTerm of deep terms is wrong")
	}
	deep := func(n int) api.Statement {
		return nest(n, func(s api.Statement) api.Statement { return api.Statement{Form: 1, From: subquery(s, "q")} })
	}
	if !Same(deep(60000), deep(60000)) || Same(deep(60000), deep(59999)) || Valid(deep(60000)) {
		t.Error("Same or Valid of deep statements is wrong")
	}
}

func TestArgumentsAreLeftAlone(t *testing.T) {
	for _, fresh := range []func() api.Statement{whole, wholeSet} {
		s := fresh()
		Valid(s)
		Text(s)
		Same(s, fresh())
		if !reflect.DeepEqual(s, fresh()) {
			t.Errorf("the statement was changed: %v", s)
		}
	}
	x := op(api.OpIn, chain(3), name("b"))
	ValidTerm(x)
	TermText(x)
	if !reflect.DeepEqual(x, op(api.OpIn, chain(3), name("b"))) {
		t.Errorf("the term was changed: %v", x)
	}
}

// spread collects all lists of terms of a statement, with the room behind them.
func spread(s api.Statement) [][]api.Term {
	l := [][]api.Term{s.Where[:cap(s.Where)], s.Group[:cap(s.Group)], s.Having[:cap(s.Having)]}
	var kids func(terms []api.Term)
	kids = func(terms []api.Term) {
		for _, x := range terms {
			l = append(l, x.Kids[:cap(x.Kids)])
			kids(x.Kids)
		}
	}
	kids(terms(s))
	for _, j := range s.Joins {
		l = append(l, j.On[:cap(j.On)])
	}
	for _, k := range statements(s) {
		l = append(l, spread(k)...)
	}
	return l
}

func TestListsOfOneResultShareNoMemory(t *testing.T) {
	s, _, err := Parse("select a + 1, b in (1, 2, 3, 4) from (select * from t where a and b) as u join v on a or b where a is not null group by a, b, c, coalesce(a, b) having case when a then b else c end union select a in (1, 2) from t")
	if err != api.OK {
		t.Fatal(err)
	}
	lists := spread(s)
	for i, list := range lists {
		for k := range list {
			list[k] = api.Term{Num: int64(1000*i + k)}
		}
	}
	for i, list := range lists {
		for k := range list {
			if list[k].Num != int64(1000*i+k) {
				t.Fatalf("element %d of list %d was changed", k, i)
			}
		}
	}
}
