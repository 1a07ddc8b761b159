package sql

import (
	"reflect"
	"strings"
	"testing"

	"querylab/api"
)

func name(s string) api.Term              { return api.Term{Op: api.TermName, Text: s} }
func dotted(q, s string) api.Term         { return api.Term{Op: api.TermName, Qualifier: q, Text: s} }
func num(n int64) api.Term                { return api.Term{Op: api.OpInt, Num: n} }
func str(s string) api.Term               { return api.Term{Op: api.OpText, Text: s} }
func truth(n int64) api.Term              { return api.Term{Op: api.OpBool, Num: n} }
func null(t int) api.Term                 { return api.Term{Op: api.OpNull, Type: t} }
func op(o int, kids ...api.Term) api.Term { return api.Term{Op: o, Kids: kids} }
func agg(fun int64, kids ...api.Term) api.Term {
	return api.Term{Op: api.TermAgg, Num: fun, Kids: kids}
}
func table(name string) api.Source        { return api.Source{Table: name} }
func named(table, name string) api.Source { return api.Source{Table: table, Name: name} }
func all(from string) api.Statement       { return api.Statement{Form: 1, Star: true, From: table(from)} }
func subquery(s api.Statement, as string) api.Source {
	return api.Source{Query: []api.Statement{s}, Name: as}
}

func items(terms ...api.Term) []api.Item {
	var l []api.Item
	for _, t := range terms {
		l = append(l, api.Item{Term: t})
	}
	return l
}

// chain returns a term of this depth.
func chain(depth int) api.Term {
	t := name("a")
	for range depth - 1 {
		t = op(api.OpNeg, t)
	}
	return t
}

func TestParseTerm(t *testing.T) {
	a, b, c := name("a"), name("b"), name("c")
	for s, want := range map[string]api.Term{
		"a": a, "(a)": a, "((a))": a, " \n a \n ": a, "t.a": dotted("t", "a"), "t . a": dotted("t", "a"), "t\n.\na": dotted("t", "a"),
		"0": num(0), "7": num(7), "1000000000000": num(api.MaxInt), "-1000000000000": num(-api.MaxInt), "'a b'": str("a b"), "''": str(""), "'\"-- !'": str("\"-- !"),
		"true": truth(1), "false": truth(0), "null int": null(api.Int), "null bool": null(api.Bool), "null text": null(api.Text), "null\ntext": null(api.Text),
		"a+b": op(api.OpAdd, a, b), "a-b": op(api.OpSub, a, b), "a*b": op(api.OpMul, a, b), "a/b": op(api.OpDiv, a, b), "a mod b": op(api.OpMod, a, b), "a||b": op(api.OpConcat, a, b),
		"a=b": op(api.OpEq, a, b), "a<>b": op(api.OpNe, a, b), "a<b": op(api.OpLt, a, b), "a<=b": op(api.OpLe, a, b), "a>b": op(api.OpGt, a, b), "a>=b": op(api.OpGe, a, b), "a same b": op(api.OpSame, a, b),
		"a is null": op(api.OpIsNull, a), "a is not null": op(api.OpNot, op(api.OpIsNull, a)), "not a is null": op(api.OpNot, op(api.OpIsNull, a)), "not a is not null": op(api.OpNot, op(api.OpNot, op(api.OpIsNull, a))), "a is true": op(api.OpIsTrue, a),
		"a in (b)": op(api.OpIn, a, b), "a in(b,c,a)": op(api.OpIn, a, b, c, a), "a in (b in (c))": op(api.OpIn, a, op(api.OpIn, b, c)), "a + b in (c)": op(api.OpIn, op(api.OpAdd, a, b), c),
		"a and b": op(api.OpAnd, a, b), "a or b": op(api.OpOr, a, b), "not a": op(api.OpNot, a), "not not a": op(api.OpNot, op(api.OpNot, a)),
		"length(a)": op(api.OpLength, a), "coalesce(a, b)": op(api.OpCoalesce, a, b), "case when a then b else c end": op(api.OpCase, a, b, c),
		"count(*)": agg(1), "count ( * )": agg(1), "count(a)": agg(2, a), "count(distinct a)": agg(3, a), "sum(a)": agg(4, a), "min(a)": agg(5, a), "max(a)": agg(6, a), "sum(count(*))": agg(4, agg(1)),
		// From left to right.
		"a - b + c": op(api.OpAdd, op(api.OpSub, a, b), c), "a + b - c": op(api.OpSub, op(api.OpAdd, a, b), c), "a || b || c": op(api.OpConcat, op(api.OpConcat, a, b), c), "a - b || c": op(api.OpConcat, op(api.OpSub, a, b), c),
		"a / b * c": op(api.OpMul, op(api.OpDiv, a, b), c), "a mod b / c": op(api.OpDiv, op(api.OpMod, a, b), c), "a and b and c": op(api.OpAnd, op(api.OpAnd, a, b), c), "a or b or c": op(api.OpOr, op(api.OpOr, a, b), c),
		// One level below the other.
		"a or b and c": op(api.OpOr, a, op(api.OpAnd, b, c)), "a and b or c": op(api.OpOr, op(api.OpAnd, a, b), c), "not a and b": op(api.OpAnd, op(api.OpNot, a), b), "not a or b": op(api.OpOr, op(api.OpNot, a), b), "a and not b": op(api.OpAnd, a, op(api.OpNot, b)),
		"not a < b": op(api.OpNot, op(api.OpLt, a, b)), "a = b and c": op(api.OpAnd, op(api.OpEq, a, b), c), "a + b = c": op(api.OpEq, op(api.OpAdd, a, b), c), "a = b || c": op(api.OpEq, a, op(api.OpConcat, b, c)), "a + b is null": op(api.OpIsNull, op(api.OpAdd, a, b)),
		"a - b * c": op(api.OpSub, a, op(api.OpMul, b, c)), "a * b - c": op(api.OpSub, op(api.OpMul, a, b), c), "a || b mod c": op(api.OpConcat, a, op(api.OpMod, b, c)), "a * -b": op(api.OpMul, a, op(api.OpNeg, b)), "- a * b": op(api.OpMul, op(api.OpNeg, a), b), "-a + b": op(api.OpAdd, op(api.OpNeg, a), b),
		"(a or b) and c": op(api.OpAnd, op(api.OpOr, a, b), c), "(a = b) = c": op(api.OpEq, op(api.OpEq, a, b), c), "-(a + b)": op(api.OpNeg, op(api.OpAdd, a, b)), "(a is null) is null": op(api.OpIsNull, op(api.OpIsNull, a)),
		// Signs of numbers.
		"-5": num(-5), "- \n5": num(-5), "-0": op(api.OpNeg, num(0)), "--0": op(api.OpNeg, op(api.OpNeg, num(0))), "--5": op(api.OpNeg, num(-5)), "---5": op(api.OpNeg, op(api.OpNeg, num(-5))), "-(5)": op(api.OpNeg, num(5)), "-(-5)": op(api.OpNeg, num(-5)),
		"a -5": op(api.OpSub, a, num(5)), "a-5": op(api.OpSub, a, num(5)), "a--5": op(api.OpSub, a, num(-5)), "a- - -5": op(api.OpSub, a, op(api.OpNeg, num(-5))), "5-5": op(api.OpSub, num(5), num(5)), "-5-5": op(api.OpSub, num(-5), num(5)), "-5*a": op(api.OpMul, num(-5), a), "a*-5": op(api.OpMul, a, num(-5)), "a < -5": op(api.OpLt, a, num(-5)),
		"-a": op(api.OpNeg, a), "-'a'": op(api.OpNeg, str("a")), "-true": op(api.OpNeg, truth(1)), "-null int": op(api.OpNeg, null(api.Int)), "-t.a": op(api.OpNeg, dotted("t", "a")),
	} {
		got, at, err := ParseTerm(s)
		if err != api.OK || at != 0 || !reflect.DeepEqual(got, want) {
			t.Errorf("%q: %v, %d, %d, not %v", s, got, at, err, want)
		}
	}
}

func TestParse(t *testing.T) {
	a, b, truthful := name("a"), name("b"), []api.Term{truth(1)}
	plain := api.Statement{Form: 1, Items: items(a), From: table("t")}
	with := func(change func(s *api.Statement)) api.Statement {
		s := plain
		change(&s)
		return s
	}
	set := func(form int, all bool, kids ...api.Statement) api.Statement {
		return api.Statement{Form: form, All: all, Kids: kids}
	}
	x, y, z := all("x"), all("y"), all("z")
	for s, want := range map[string]api.Statement{
		"select a from t": plain, "(select a from t)": plain, "((\nselect a from t ) )": plain,
		"select * from x":                    x,
		"select distinct * from x":           {Form: 1, Distinct: true, Star: true, From: table("x")},
		"select distinct a from t":           with(func(s *api.Statement) { s.Distinct = true }),
		"select a, b as c, count(*)from t":   with(func(s *api.Statement) { s.Items = []api.Item{{Term: a}, {Term: b, Name: "c"}, {Term: agg(1)}} }),
		"select a*b from t":                  with(func(s *api.Statement) { s.Items = items(op(api.OpMul, a, b)) }),
		"select a from t as u":               with(func(s *api.Statement) { s.From = named("t", "u") }),
		"select a from(select * from x)as q": with(func(s *api.Statement) { s.From = subquery(x, "q") }),
		"select a from (select * from x union all select * from y) as q": with(func(s *api.Statement) { s.From = subquery(set(2, true, x, y), "q") }),
		"select a from t where a or b":                                   with(func(s *api.Statement) { s.Where = []api.Term{op(api.OpOr, a, b)} }),
		"select a from t having true":                                    with(func(s *api.Statement) { s.Having = truthful }),
		"select a from t group by a":                                     with(func(s *api.Statement) { s.Group = []api.Term{a} }),
		"select a from t where b group by a, b + 1, a having true": with(func(s *api.Statement) {
			s.Where, s.Group, s.Having = []api.Term{b}, []api.Term{a, op(api.OpAdd, b, num(1)), a}, truthful
		}),
		"select * from x union select * from y":                                         set(2, false, x, y),
		"select * from x union all select * from y":                                     set(2, true, x, y),
		"select * from x except select * from y":                                        set(3, false, x, y),
		"select * from x except all select * from y":                                    set(3, true, x, y),
		"select * from x intersect select * from y":                                     set(4, false, x, y),
		"select * from x intersect all select * from y":                                 set(4, true, x, y),
		"select * from x union select * from y intersect all select * from z":           set(4, true, set(2, false, x, y), z),
		"select * from x intersect all select * from y union select * from z":           set(2, false, set(4, true, x, y), z),
		"(select * from x except select * from y) except select * from z":               set(3, false, set(3, false, x, y), z),
		"select * from x except (select * from y except all (select * from z))":         set(3, false, x, set(3, true, y, z)),
		"select * from x where a union select * from y having b except (select*from z)": set(3, false, set(2, false, api.Statement{Form: 1, Star: true, From: table("x"), Where: []api.Term{a}}, api.Statement{Form: 1, Star: true, From: table("y"), Having: []api.Term{b}}), z),
	} {
		got, at, err := Parse(s)
		if err != api.OK || at != 0 || !reflect.DeepEqual(got, want) {
			t.Errorf("%q: %v, %d, %d, not %v", s, got, at, err, want)
		}
	}
}

func TestParseJoins(t *testing.T) {
	kinds := map[string]int{"join": 1, "inner join": 1, "left join": 2, "right join": 3, "full join": 4, "semi join": 5, "anti join": 6, "cross join": 0}
	sources := map[string]api.Source{"u": table("u"), "u as v": named("u", "v"), "(select * from x) as v": subquery(all("x"), "v")}
	on := []api.Term{op(api.OpEq, name("a"), dotted("u", "b"))}
	for word, kind := range kinds {
		for text, source := range sources {
			join, want := word+" "+text, api.Joined{Kind: kind, Source: source}
			if kind != 0 {
				join, want.On = join+" on a = u.b", on
			}
			s, at, err := Parse("select * from t " + join + " join w on a = u.b " + join + " where a = u.b")
			joins := []api.Joined{want, {Kind: 1, Source: table("w"), On: on}, want}
			if err != api.OK || at != 0 || !reflect.DeepEqual(s, api.Statement{Form: 1, Star: true, From: table("t"), Joins: joins, Where: on}) {
				t.Errorf("%s: %v, %d, %d", join, s, at, err)
			}
		}
	}
}

func TestParseExamples(t *testing.T) {
	s, at, err := Parse("select a, count(*) as n from t where a > 0 group by a")
	want := api.Statement{
		Form: api.FormSelect, Items: []api.Item{{Term: name("a")}, {Term: agg(api.AggRows), Name: "n"}}, From: table("t"),
		Where: []api.Term{op(api.OpGt, name("a"), num(0))}, Group: []api.Term{name("a")},
	}
	if err != api.OK || at != 0 || !reflect.DeepEqual(s, want) {
		t.Errorf("%v, %d, %d", s, at, err)
	}
	if s, at, err := Parse("select from t"); err != api.ErrSyntax || at != 7 || !reflect.DeepEqual(s, api.Statement{}) {
		t.Errorf("%v, %d, %d", s, at, err)
	}
}

func TestTokensAreAsLongAsTheyCanBe(t *testing.T) {
	for s, at := range map[string]int{
		"a": -1, "a_1": -1, "abcdefghijklmnop": -1, "abcdefghijklmnopq": 0, "a0000000000000000": 0, "truee": -1, "ortrue": -1, "nota": -1, "not(a)": -1, "a and(b)": -1,
		"1": -1, "0": -1, "00": 0, "01": 0, "000": 0, "1000000000000": -1, "1000000000001": 0, "9999999999999999999999": 0, "-1000000000001": 1, "-01": 1, "-00": 1, "1.5": 1, "1e5": 1, "0x1": 1, "12and 5": -1, "1or 2": -1, "5mod 3": -1, "1_": 1, "1 000": 2,
		"'a'": -1, "'": 0, "'a": 0, "a = 'a": 4, "'a''b'": 3, "'a'b": 3, "'abcdefghijklmnopqrstuvwx'": -1, "'abcdefghijklmnopqrstuvwxy'": 0, "'a\nb'": 0, "'\x7f'": 0, "'\x1f'": 0, "'~ '": -1, "'\u00e4'": 0, "'a\x00": 0, "'!": 0,
		"a<>b": -1, "a< >b": 3, "a<=b": -1, "a< =b": 3, "a>=b": -1, "a> =b": 3, "a=<b": 2, "a=>b": 2, "a>>b": 2, "a<<b": 2, "a><b": 2, "a==b": 2, "a<>=b": 3, "a<-b": -1, "a>-1": -1, "a=-1": -1, "a!=b": 1,
		"a||b": -1, "a|b": 1, "a| |b": 1, "a|||b": 3, "a||||b": 3, "a--b": -1, "a++b": 2, "a**b": 2, "a//b": 2, "a+-b": -1, "a-+b": 2, "t.a": -1, "t..a": 2, ".a": 0, "t.1": 2, "1.a": 1, "a;": 1, ";": 0, "()": 1, "(a": 2, "a)": 1, "a,b": 1,
		"A": 0, "aB": 1, "a B": 2, "_a": 0, "a _": 2, "\ta": 0, "a\t": 1, "a\r": 1, "a\v": 1, "\x00": 0, "a\x00": 1, "\u00e9": 0, "a\u00e9": 1, "a\u00a0": 1, "\"a\"": 0, "`a`": 0, "[a]": 0, "{a}": 0, "#": 0, "a %b": 2, "a & b": 2, "a ? b": 2, "$0": 0, "a@": 1, "a:b": 1, "a\\b": 1, "a^b": 1, "~a": 0, "'a' \xff": 4,
	} {
		tree, got, err := ParseTerm(s)
		if at < 0 && (err != api.OK || got != 0) || at >= 0 && (err != api.ErrSyntax || got != at || !SameTerm(tree, api.Term{})) {
			t.Errorf("%q: %d at %d, not at %d", s, err, got, at)
		}
	}
}

func TestEachByteBetweenTokens(t *testing.T) {
	for c := range 256 {
		text, want := "k"+string([]byte{byte(c)})+"k", 1
		switch {
		case strings.IndexByte("abcdefghijklmnopqrstuvwxyz0123456789_+-*/=<>.", byte(c)) >= 0:
			want = -1
		case c == ' ' || c == '\n':
			want = 2
		}
		_, at, err := ParseTerm(text)
		if want < 0 && err != api.OK || want >= 0 && (err != api.ErrSyntax || at != want) {
			t.Errorf("%q: %d at %d, not at %d", text, err, at, want)
		}
	}
}

func TestReservedWordsAreNoNames(t *testing.T) {
	words := strings.Fields("select distinct all from where group by having as on union except intersect join inner left right full cross semi anti and or is in when then else end values table primary unique foreign references check int bool text same mod")
	for _, w := range words {
		if _, at, err := ParseTerm(w); err != api.ErrSyntax || at != 0 {
			t.Errorf("%s: %d at %d", w, err, at)
		}
	}
	for _, w := range append(words, "not", "null", "true", "false", "case", "count", "sum", "min", "max", "coalesce", "length") {
		for text, at := range map[string]int{"select a from t as " + w: 19, "select a as " + w + " from t": 12, "select a from " + w: 14, "select t." + w + " from t": 9, "select a from (select a from t) as " + w: 35, "select a from t join " + w + " on a": 21} {
			if _, got, err := Parse(text); err != api.ErrSyntax || got != at {
				t.Errorf("%s: %d at %d, not %d", text, err, got, at)
			}
		}
	}
}

func TestWhereMoreIsWanted(t *testing.T) {
	whole := "select distinct t.a + 1 as b , count ( distinct a ) from ( select * from t as q ) as u left join v on a is not null and b in ( 1 , 2 ) cross join w as c where not a < 1 group by coalesce ( a , null int ) having max ( a ) is true union all ( select * from t )"
	tokens := strings.Fields(whole)
	for n := range tokens {
		text := strings.Join(tokens[:n], " ") + "  \n"
		if _, complete := viable("STATEMENT", strings.Fields(strings.ReplaceAll(text, ".", " . "))); complete {
			continue
		}
		if _, at, err := Parse(text); err != api.ErrSyntax || at != len(text) {
			t.Errorf("%q: %d at %d", text, err, at)
		}
	}
	for _, s := range []string{"", " ", "\n \n"} {
		if _, at, err := Parse(s); err != api.ErrSyntax || at != len(s) {
			t.Errorf("%q: %d at %d", s, err, at)
		}
		if _, at, err := ParseTerm(s); err != api.ErrSyntax || at != len(s) {
			t.Errorf("%q: %d at %d", s, err, at)
		}
	}
}

func TestTermsAndStatementsAreNotOneAnother(t *testing.T) {
	for s, at := range map[string]int{"select a from t": 0, "(select a from t)": 1, "a as b": 2, "a, b": 1, "*": 0, "a union b": 2, "length(select a from t)": 7, "a in (select b from t)": 6} {
		if _, got, err := ParseTerm(s); err != api.ErrSyntax || got != at {
			t.Errorf("%q: %d at %d", s, err, got)
		}
	}
	for s, at := range map[string]int{"a": 0, "(a)": 1, "5": 0, "select (select a from t) from t": 8, "select a from (t)": 15, "select a from (t join u on b)": 15, "select a from t, u": 15, "select a b from t": 9, "select all a from t": 7, "select distinct distinct a from t": 16, "select a.* from t": 9, "select a, from t": 10, "select a from t join u": 22, "select a from t cross u": 22, "select a from t left u on a": 21, "select a from t where a where b": 24, "select a from t having a group by b": 25, "select a from t group by": 24, "select a from t group by a,": 27, "select a from t union": 21, "select a from t all": 16, "select a from t) ": 15, "select a from t (": 16, "(select a from t) as b": 18, "select a from (select b from t) q": 32, "select a from t order by a": 16, "select a from t where a = b union b": 34, "values (1)": 0} {
		if _, got, err := Parse(s); err != api.ErrSyntax || got != at {
			t.Errorf("%q: %d at %d", s, err, got)
		}
	}
}

func TestParseLimit(t *testing.T) {
	for _, fill := range []string{" ", "\n", "!", "a", "("} {
		for _, s := range []string{strings.Repeat(fill, api.MaxSource+1), "select a from t" + strings.Repeat(fill, api.MaxSource), strings.Repeat(fill, 3*api.MaxSource)} {
			if tree, at, err := Parse(s); err != api.ErrLimit || at != 0 || !Same(tree, api.Statement{}) {
				t.Errorf("%.20q: %d at %d", s, err, at)
			}
			if tree, at, err := ParseTerm(s); err != api.ErrLimit || at != 0 || !SameTerm(tree, api.Term{}) {
				t.Errorf("%.20q: %d at %d", s, err, at)
			}
		}
	}
	full := func(s string) string { return s + strings.Repeat(" ", api.MaxSource-len(s)) }
	if _, at, err := Parse(full("select a from t")); err != api.OK || at != 0 {
		t.Error(err, at)
	}
	if _, at, err := ParseTerm(full("a")); err != api.OK || at != 0 {
		t.Error(err, at)
	}
	if _, at, err := ParseTerm(full("a +")); err != api.ErrSyntax || at != api.MaxSource {
		t.Error(err, at)
	}
	if _, at, err := ParseTerm(strings.Repeat("(", api.MaxSource)); err != api.ErrSyntax || at != api.MaxSource {
		t.Error(err, at)
	}
	if _, at, err := Parse(strings.Repeat("(", api.MaxSource)); err != api.ErrSyntax || at != api.MaxSource {
		t.Error(err, at)
	}
	if tree, at, err := ParseTerm(strings.Repeat("(", 1999) + "a" + strings.Repeat(")", 1999)); err != api.OK || at != 0 || !SameTerm(tree, name("a")) {
		t.Error(err, at)
	}
}

func nested(begin, middle, end string, n int) string {
	return strings.Repeat(begin, n) + middle + strings.Repeat(end, n)
}

func TestParseTermDepth(t *testing.T) {
	for _, c := range []struct{ begin, end string }{
		{"- ", ""}, {"not ", ""}, {"length(", ")"}, {"coalesce(1, ", ")"}, {"coalesce(", ", 1)"}, {"(", " is null)"}, {"(", ") is true"}, {"sum(", ")"}, {"count(distinct ", ")"}, {"", " + 1"}, {"", " or 1"},
		{"1 in (2, ", ", 3)"}, {"case when ", " then 1 else 2 end"}, {"case when 1 then ", " else 2 end"}, {"case when 1 then 2 else ", " end"},
	} {
		for n, want := range map[int]api.Errno{1: api.OK, 22: api.OK, 23: api.OK, 24: api.ErrDepth, 50: api.ErrDepth, 100: api.ErrDepth} {
			s := nested(c.begin, "a", c.end, n)
			if tree, at, err := ParseTerm(s); err != want || at != 0 || (err != api.OK && !SameTerm(tree, api.Term{})) {
				t.Errorf("%s: %d at %d, not %d", s, err, at, want)
			}
			if tree, at, err := ParseTerm(s + " )"); err != api.ErrSyntax || at != len(s)+1 || !SameTerm(tree, api.Term{}) {
				t.Errorf("%s ): %d at %d", s, err, at)
			}
		}
	}
	if _, at, err := ParseTerm(strings.Repeat("not ", 999) + "a"); err != api.ErrDepth || at != 0 {
		t.Error(err, at)
	}
}

func TestParseDepth(t *testing.T) {
	for _, c := range []struct {
		begin, middle, end string
		most               int
	}{
		{"select * from (", "select * from t", ") as q", 23}, {"select * from (", "select a from t", ") as q", 22}, {"select * from (", "select a + b from t", ") as q", 21},
		{"select * from t cross join (", "select * from t", ") as q", 23}, {"select * from t join (", "select * from t", ") as q on a", 23},
		{"select * from t union (", "select * from t", ")", 23}, {"", "select * from t", " union select * from t", 23}, {"", "select a from t", " except select a from t", 22},
	} {
		for n := range 60 {
			want := api.OK
			if n > c.most {
				want = api.ErrDepth
			}
			s := nested(c.begin, c.middle, c.end, n)
			if tree, at, err := Parse(s); err != want || at != 0 || (err != api.OK && !Same(tree, api.Statement{})) {
				t.Errorf("%s: %d at %d, not %d", s, err, at, want)
			}
			if tree, at, err := Parse(s + " )"); err != api.ErrSyntax || at != len(s)+1 || !Same(tree, api.Statement{}) {
				t.Errorf("%s ): %d at %d", s, err, at)
			}
		}
	}
	for _, text := range []string{"select X from t", "select 1, X from t", "select * from t join u on X", "select * from t where X", "select * from t group by a, X", "select * from t having X"} {
		for depth, want := range map[int]api.Errno{22: api.OK, 23: api.OK, 24: api.ErrDepth, 40: api.ErrDepth} {
			s := strings.Replace(text, "X", strings.Repeat("-", depth-1)+"a", 1)
			if _, at, err := Parse(s); err != want || at != 0 {
				t.Errorf("%s: %d at %d, not %d", s, err, at, want)
			}
		}
	}
	if tree, at, err := Parse(nested("(", "select * from t", ")", 1000)); err != api.OK || at != 0 || !Same(tree, all("t")) {
		t.Error(err, at)
	}
}
