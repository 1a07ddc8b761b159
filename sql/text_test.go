package sql

import (
	"math/rand/v2"
	"reflect"
	"strings"
	"testing"

	"querylab/api"
)

// samples has a term of every kind, over these Kids where it has some.
func samples(a, b, c api.Term) []api.Term {
	l := []api.Term{
		null(api.Int), null(api.Bool), null(api.Text), num(0), num(1), num(5), num(-1), num(-5), num(api.MaxInt), num(-api.MaxInt), truth(0), truth(1), str(""), str("a b"), str("(*"), name("x"), dotted("t", "x"),
		op(api.OpIn, a, b), op(api.OpIn, b, c, a), op(api.OpCase, a, b, c), op(api.OpNot, op(api.OpIsNull, a)), op(api.OpNeg, num(0)), op(api.OpNeg, num(1)), op(api.OpNeg, num(-1)), agg(api.AggRows),
	}
	for o := api.OpAdd; o <= api.OpCoalesce; o++ {
		switch o {
		case api.OpCase:
		case api.OpNeg, api.OpLength, api.OpIsNull, api.OpNot, api.OpIsTrue:
			l = append(l, op(o, a))
		default:
			l = append(l, op(o, a, b))
		}
	}
	for fun := int64(api.AggCount); fun <= api.AggMax; fun++ {
		l = append(l, agg(fun, a))
	}
	return l
}

func checkTerm(t *testing.T, tree api.Term) {
	text := TermText(tree)
	if again, at, err := ParseTerm(text); !ValidTerm(tree) || err != api.OK || at != 0 || !reflect.DeepEqual(again, tree) {
		t.Fatalf("%v: TermText is %s, which is %v, %d at %d", tree, text, again, err, at)
	}
}

func TestTermTextOfEachTermWithinEachTerm(t *testing.T) {
	a, b, c := name("a"), dotted("t", "b"), num(7)
	within := samples(a, b, c)
	for _, x := range within {
		checkTerm(t, x)
		for _, outer := range [][]api.Term{samples(x, b, c), samples(a, x, c), samples(a, b, x), samples(x, x, x)} {
			for _, y := range outer {
				checkTerm(t, y)
			}
		}
	}
}

// bracketedText writes every operand in brackets, so that it depends on no level.
func bracketedText(t api.Term) string {
	var kids []string
	for _, k := range t.Kids {
		kids = append(kids, "("+bracketedText(k)+")")
	}
	signs := map[int]string{6: "+", 7: "-", 8: "*", 9: "/", 10: "mod", 12: "||", 14: "=", 15: "<>", 16: "<", 17: "<=", 18: ">", 19: ">=", 20: "same", 22: "and", 23: "or"}
	aggs := map[int64]string{2: "count(", 3: "count(distinct ", 4: "sum(", 5: "min(", 6: "max("}
	switch t.Op {
	case api.OpNeg:
		return "-" + kids[0]
	case api.OpNot:
		return "not" + kids[0]
	case api.OpIsNull:
		return kids[0] + "is null"
	case api.OpIsTrue:
		return kids[0] + "is true"
	case api.OpLength:
		return "length" + kids[0]
	case api.OpCoalesce:
		return "coalesce(" + strings.Join(kids, ",") + ")"
	case api.OpCase:
		return "case when" + kids[0] + "then" + kids[1] + "else" + kids[2] + "end"
	case api.OpIn:
		return kids[0] + "in(" + strings.Join(kids[1:], ",") + ")"
	case api.TermAgg:
		if t.Num != api.AggRows {
			return aggs[t.Num] + kids[0] + ")"
		}
	}
	if sign, ok := signs[t.Op]; ok {
		return kids[0] + sign + kids[1]
	}
	return TermText(t)
}

func randomTerm(r *rand.Rand, depth int) api.Term {
	if depth <= 1 {
		return samples(name("a"), name("b"), name("c"))[r.IntN(17)]
	}
	kid := func() api.Term { return randomTerm(r, 1+r.IntN(depth-1)) }
	l := samples(kid(), kid(), kid())
	return l[r.IntN(len(l))]
}

func TestTermTextOfRandomTerms(t *testing.T) {
	r := rand.New(rand.NewPCG(5, 3))
	for n := range 4000 {
		tree := randomTerm(r, 2+n%5)
		checkTerm(t, tree)
		text := bracketedText(tree)
		if len(text) > api.MaxSource {
			continue
		}
		if again, at, err := ParseTerm(text); err != api.OK || at != 0 || !SameTerm(again, tree) {
			t.Fatalf("%s: %v, %d at %d, not %v", text, again, err, at, tree)
		}
	}
}

func randomSource(r *rand.Rand, depth int) api.Source {
	switch r.IntN(3 + min(depth, 1)) {
	case 0:
		return table("t")
	case 1, 2:
		return named("u", "v")
	}
	return subquery(randomStatement(r, depth-1), "q")
}

func randomCondition(r *rand.Rand, depth int) []api.Term {
	if r.IntN(2) == 0 {
		return nil
	}
	return []api.Term{randomTerm(r, depth)}
}

func randomStatement(r *rand.Rand, depth int) api.Statement {
	if depth > 0 && r.IntN(3) == 0 {
		return api.Statement{Form: 2 + r.IntN(3), All: r.IntN(2) == 0, Kids: []api.Statement{randomStatement(r, depth-1), randomStatement(r, depth-1)}}
	}
	s := api.Statement{Form: 1, Distinct: r.IntN(2) == 0, Star: r.IntN(3) == 0, From: randomSource(r, depth), Where: randomCondition(r, 3), Having: randomCondition(r, 2)}
	for n := r.IntN(3); n >= 0 && !s.Star; n-- {
		s.Items = append(s.Items, api.Item{Term: randomTerm(r, 2), Name: []string{"", "a", "n_2"}[r.IntN(3)]})
	}
	for range r.IntN(3) {
		j := api.Joined{Kind: r.IntN(7), Source: randomSource(r, depth)}
		if j.Kind != 0 {
			j.On = []api.Term{randomTerm(r, 3)}
		}
		s.Joins = append(s.Joins, j)
	}
	for range r.IntN(3) {
		s.Group = append(s.Group, randomTerm(r, 2))
	}
	return s
}

func TestTextOfRandomStatements(t *testing.T) {
	r := rand.New(rand.NewPCG(5, 4))
	long := 0
	for n := range 3000 {
		s := randomStatement(r, n%4)
		text := Text(s)
		if !Valid(s) || text == "" {
			t.Fatalf("%v is not valid", s)
		}
		again, at, err := Parse(text)
		if len(text) > api.MaxSource && err == api.ErrLimit {
			long++
			continue
		}
		if err != api.OK || at != 0 || !reflect.DeepEqual(again, s) {
			t.Fatalf("%s is %v, %d at %d, not %v", text, again, err, at, s)
		}
	}
	if long > 300 {
		t.Errorf("%d texts are too long", long)
	}
}

func TestTextOfSetsWithinSets(t *testing.T) {
	for first := api.FormUnion; first <= api.FormIntersect; first++ {
		for second := api.FormUnion; second <= api.FormIntersect; second++ {
			for n := range 4 {
				inner := api.Statement{Form: first, All: n%2 == 0, Kids: []api.Statement{all("x"), all("y")}}
				for _, kids := range [][]api.Statement{{inner, all("z")}, {all("z"), inner}, {inner, inner}} {
					s := api.Statement{Form: second, All: n/2 == 0, Kids: kids}
					if again, at, err := Parse(Text(s)); err != api.OK || at != 0 || !reflect.DeepEqual(again, s) {
						t.Errorf("%s is %v, not %v", Text(s), again, s)
					}
				}
			}
		}
	}
}

func TestTextsAreShort(t *testing.T) {
	for _, s := range []string{
		"a or b and not c = d + e * -f", "a + b - c", "a - (b - c)", "a and b and c", "a and (b and c)", "(a or b) and c", "not not a", "a is not null", "not a is true", "(a is null) is null", "a in (b or c, -5)", "a + b in (c)", "a + b is null", "a + b is not null", "a || b = c * d + e", "(a = b) = c", "-(5) * 3", "a - -5", "--5", "-0", "-(a + b)",
		"case when a or b then c else d end + 1", "coalesce(a or b, c)", "length('x' || t.a)", "count(*) + count(a or b) + count(distinct a) + sum(a) + min(a) + max(a)", "null int = null bool", "a < true", "a * b mod c / (d * e)",
	} {
		tree, _, err := ParseTerm(s)
		if got := TermText(tree); err != api.OK || got != s {
			t.Errorf("%s: TermText is %s", s, got)
		}
	}
	for _, s := range []string{
		"select a as b, c from t", "select distinct * from t as u", "select a from t union select b from u except all select c from v", "select a from t intersect (select b from u union all select c from v)",
		"select * from (select * from t) as q left join u on a cross join (select * from v) as w where a group by b, c + 1 having d",
	} {
		tree, _, err := Parse(s)
		if got := Text(tree); err != api.OK || got != s {
			t.Errorf("%s: Text is %s", s, got)
		}
	}
}

func TestTextOfWhatIsTooLong(t *testing.T) {
	s := all("t")
	for range 2000 {
		s.Group = append(s.Group, name("a"))
	}
	if text := Text(s); !Valid(s) || len(text) <= api.MaxSource || strings.Count(text, "a, a") == 0 {
		t.Errorf("it has %d bytes", len(text))
	}
	in := op(api.OpIn, s.Group...)
	if text := TermText(in); !ValidTerm(in) || len(text) <= api.MaxSource {
		t.Errorf("it has %d bytes", len(text))
	}
}

func TestTextOfWhatIsNotValid(t *testing.T) {
	deep := all("t")
	deep.Where = []api.Term{chain(24)}
	for _, s := range []api.Statement{{}, {Form: 1}, {Form: 2}, {Form: 9, Kids: []api.Statement{all("t"), all("t")}}, all(""), all("select"), deep, {Form: 2, Kids: []api.Statement{all("t"), {}}}} {
		if text := Text(s); text != "" {
			t.Errorf("%v: %s", s, text)
		}
	}
	for _, x := range []api.Term{{}, name(""), name("from"), op(api.OpNeg), op(api.OpNot), op(api.OpIn, num(1)), op(api.OpNot, op(api.OpIsNull)), chain(25), op(-1), op(99), agg(0), agg(7), op(api.OpColumn)} {
		if text := TermText(x); text != "" {
			t.Errorf("%v: %s", x, text)
		}
	}
}
