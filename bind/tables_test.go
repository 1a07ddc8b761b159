package bind

import (
	"math/rand/v2"
	"reflect"
	"slices"
	"strconv"
	"strings"
	"testing"

	"querylab/api"
	"querylab/expression"
	"querylab/schema"
)

func TestSchema(t *testing.T) {
	keyed := func(name string, more ...api.Column) api.Table {
		return api.Table{Name: name, Columns: append([]api.Column{{Name: "a", Type: api.Int}}, more...), Primary: []int{0}}
	}
	full := api.Table{
		Name:     "u",
		Columns:  []api.Column{{Name: "k", Type: api.Int}, {Name: "a", Type: api.Int, Nullable: true}, {Name: "c", Type: api.Bool}, {Name: "d", Type: api.Text, Nullable: true}},
		Primary:  []int{2, 0},
		Uniques:  [][]int{{2, 1}, {3}},
		Foreigns: []api.Foreign{{Columns: []int{1}, Table: "t"}, {Columns: []int{0}, Table: "t"}},
		Checks:   []api.Expr{op(api.OpGt, col(1), num(-5)), op(api.OpOr, col(2), op(api.OpNot, op(api.OpIsNull, col(3))))},
	}
	for text, want := range map[string][]api.Table{
		"": nil, " \n": nil,
		"table t (a int, primary (a));":                               {keyed("t")},
		"table t(a int,primary(a));table v(a int,primary(a));":        {keyed("t"), keyed("v")},
		"\ntable\nt\n(\na\nint\n,\nprimary\n(\na\n)\n)\n;\n":          {keyed("t")},
		"table t (primary (a), a int, b text null, c bool);":          {keyed("t", api.Column{Name: "b", Type: api.Text, Nullable: true}, api.Column{Name: "c", Type: api.Bool})},
		"table v (a int, primary (a)); table t (primary (a), a int);": {keyed("v"), keyed("t")},
		"table u (check (a > -5), foreign (a) references t, unique (c, a), primary (c, k), k int, a int null, c bool, d text null, unique (d), foreign (k) references t, check (c or d is not null)); table t (a int, primary (a));": {full, keyed("t")},
	} {
		s, at, err := Schema(text)
		if err != api.OK || at != 0 || !reflect.DeepEqual(s, api.Schema{Tables: want}) {
			t.Errorf("%s: %v, %d at %d", text, s, err, at)
		}
	}
}

// place is a token of a text of a schema, and all tokens, of those of alternatives, that may stand there as well.
type place struct{ token, others string }

const (
	anyName    = " x t q_1 "
	anyPart    = anyName + "primary unique foreign check "
	beginSum   = anyName + "5 'z' true false null ( - length coalesce case count sum min max "
	beginTerm  = beginSum + "not "
	behindSum  = " + - * / || mod and or ) "
	behindTerm = behindSum + "= <> < <= > >= same is in "
	behindName = behindTerm + ". "
)

func places() []place {
	return []place{
		{"table", ""}, {"t", anyName}, {"(", ""},
		{"a", anyPart}, {"int", "bool text"}, {"null", ", )"}, {",", ")"},
		{"b", anyPart}, {"text", "int bool"}, {",", "null )"},
		{"primary", anyPart}, {"(", ""}, {"a", anyName}, {",", ")"}, {"b", anyName}, {")", ","}, {",", ")"},
		{"unique", anyPart}, {"(", ""}, {"a", anyName}, {")", ","}, {",", ")"},
		{"foreign", anyPart}, {"(", ""}, {"b", anyName}, {",", ")"}, {"a", anyName}, {")", ","}, {"references", ""}, {"u", anyName}, {",", ")"},
		{"check", anyPart}, {"(", ""}, {"a", beginTerm}, {">", behindName}, {"5", beginSum}, {")", behindSum}, {",", ")"},
		{"check", anyPart}, {"(", ""}, {"(", beginTerm}, {"b", beginTerm}, {"is", behindName}, {"null", "not true"}, {")", "and or"}, {"and", behindTerm}, {"count", beginTerm}, {"(", ""}, {"*", beginTerm + "distinct"}, {")", ""}, {")", behindTerm}, {",", ")"},
		{"c", anyPart}, {"bool", "int text"}, {")", ", null"}, {";", ""},
		{"table", ""}, {"u", anyName}, {"(", ""}, {"k", anyPart}, {"int", "bool text"}, {")", ", null"}, {";", ""},
	}
}

// alternatives are tokens of each kind, and what is none.
func alternatives() []string {
	return strings.Fields("x t q_1 primary unique foreign check references table int bool text null ( ) , ; . = <> < <= > >= + - * / || mod same is in and or not true false distinct length coalesce case when count sum min max select from as 5 'z' 007 A _ ! | ' 'abcdefghijklmnopqrstuvwxy' abcdefghijklmnopq 1000000000001")
}

func TestSchemaTellsTheFirstWrongToken(t *testing.T) {
	l := places()
	var tokens []string
	for _, p := range l {
		tokens = append(tokens, p.token)
	}
	r := rand.New(rand.NewPCG(1, 6))
	for i, p := range l {
		at := 0
		before := ""
		for _, token := range tokens[:i] {
			before += token + []string{" ", "\n", "  "}[r.IntN(3)]
		}
		at = len(before)
		if _, got, err := Schema(before); i > 0 && tokens[i-1] != ";" && (err != api.ErrSyntax || got != at) {
			t.Errorf("%s: %d at %d", before, err, got)
		}
		allowed := append(strings.Fields(p.others), p.token)
		for _, other := range alternatives() {
			text := before + other + " " + strings.Join(tokens[i+1:], " ")
			_, got, err := Schema(text)
			wrong := err == api.ErrSyntax && got <= at
			if slices.Contains(allowed, other) == wrong || wrong && got != at {
				t.Errorf("%s: %d at %d, not %d", text, err, got, at)
			}
		}
	}
}

func TestSchemaSyntax(t *testing.T) {
	for text, at := range map[string]int{
		"table t (a int)": 15, "table t ();": 9, "table t (a);": 10, "table from (a int);": 6, "table t (a int, check (a >));": 26, "table t (a int, primary a);": 24, "table t (a int); x": 17, "x": 0, ";": 0, "table t (a int);;": 16, "table t (a int,);": 15, "table t (a int, primary ());": 25, "table t (a int, check ());": 23, "table t (a int not null);": 15, "table t (a null);": 11, "table t (a int null null);": 20, "table t.u (a int);": 7, "table t (a int primary);": 15,
		"table t (a int, check (a > 0);": 29, "table t (a int, check (a > 0": 28, "table t (a int, check (a > 0 ": 29, "table t (a int, check (a > ": 27, "table t (a int, check (": 23, "table t (a int, check ((a > 0));": 31, "table t (a int, check (a b));": 25, "table t (a int, check (a > 0, b));": 28, "table t (a int, check (a > 0) = 1);": 30, "table t (a int, check (select a from t));": 23, "table t (a int, check (a = 'x));": 27, "table t (a int, check (a = 'x\n'));": 27, "table t (a int, check a > 0);": 22, "table t (a int, foreign (a) t);": 28, "table t (a int, foreign (a) references);": 38, "table t (a int, unique (a) references t);": 27, "table t (a int, primary (a), primary (a), check (x), unique (y)": 63,
		strings.Repeat(" ", api.MaxSource): -1, strings.Repeat(" ", api.MaxSource-1) + "!": api.MaxSource - 1, "table t (a int, check (" + strings.Repeat("(", 3000): 3023, "table t (a int, primary (a), check (" + strings.Repeat("(", 1000) + "true" + strings.Repeat(")", 1001) + ");": -1, "table t (a int, primary (a), check (" + strings.Repeat("(", 1000) + "true" + strings.Repeat(")", 1000) + ");": 2041,
	} {
		s, got, err := Schema(text)
		if at < 0 && (err != api.OK || got != 0) || at >= 0 && (err != api.ErrSyntax || got != at || s.Tables != nil) {
			t.Errorf("%.60q: %d at %d, not %d", text, err, got, at)
		}
	}
	for _, text := range []string{strings.Repeat(" ", api.MaxSource+1), strings.Repeat("!", api.MaxSource+1), "table t (a int, primary (a));" + strings.Repeat("\n", api.MaxSource), "table t (a int);" + strings.Repeat("\n", api.MaxSource)} {
		if s, at, err := Schema(text); err != api.ErrLimit || at != 0 || s.Tables != nil {
			t.Errorf("%.20q: %d at %d", text, err, at)
		}
	}
}

func checkSchemaError(t *testing.T, text string, want api.Errno) {
	t.Helper()
	if s, at, err := Schema(text); err != want || at != 0 || (s.Tables == nil) != (err != api.OK) {
		t.Errorf("%s: %d at %d, not %d", text, err, at, want)
	}
}

func TestSchemaErrors(t *testing.T) {
	for text, want := range map[string]api.Errno{
		"table t (a int, primary (a), primary (a));": api.ErrDuplicate, "table t (a int, primary (a), b int, primary (b));": api.ErrDuplicate, "table t (a int, primary (a), primary (x));": api.ErrDuplicate, "table t (primary (x), primary (x), a int);": api.ErrName,
		"table t (a int, primary (b));": api.ErrName, "table t (a int, primary (a, b));": api.ErrName, "table t (a int, primary (a), unique (b));": api.ErrName, "table t (a int, primary (a), foreign (b) references t);": api.ErrName, "table t (a int, primary (a), foreign (t) references none);": api.ErrName, "table u (b int, primary (b)); table t (a int, primary (b));": api.ErrName, "table t (a int, primary (a)); table u (b int, primary (b), unique (a));": api.ErrName,
		"table t (a int, primary (a), check (c > 1));": api.ErrName, "table t (a int, primary (a), check (t.a > 1));": api.ErrName, "table t (a int, primary (a), check (count(*) > 1));": api.ErrInvalid, "table t (a int, primary (a), check (max(c) > 1));": api.ErrInvalid, "table t (a int, primary (a), check (a + true > 1));": api.ErrType, "table t (a int, primary (a), a int, check (a > 1));": api.ErrDuplicate, "table t (a int, primary (a), check (a > c + count(*)));": api.ErrName,
		"table t (a int, primary (a), check (" + strings.Repeat("not ", 23) + "a > 1));": api.ErrInvalid, "table t (a int, primary (a), check (" + strings.Repeat("not ", 50) + "c > 1), check (c));": api.ErrInvalid, "table t (a int, primary (a), check (a in (" + strings.Repeat("1, ", 198) + "1)));": api.ErrLimit,
		// What schema.Valid says.
		"table t (a int, primary (a), check (a));": api.ErrType, "table t (a int);": api.ErrReference, "table t (primary (a), a int null);": api.ErrType, "table t (a int, a int, primary (a));": api.ErrDuplicate, "table t (a int, primary (a)); table t (a int, primary (a));": api.ErrDuplicate, "table t (a int, primary (a, a));": api.ErrReference, "table t (a int, primary (a), unique (a, a));": api.ErrReference,
		"table t (a int, primary (a), foreign (a) references none);": api.ErrMissing, "table t (a int, primary (a), foreign (a) references t);": api.ErrCycle, "table t (a int, b text, primary (a), foreign (b) references u); table u (a int, primary (a));": api.ErrReference, "table t (a int, primary (a), foreign (a) references u); table u (a int, primary (a), foreign (a) references t);": api.ErrCycle, "table t (primary (a), a int, check (true), check (true), check (true), check (true), check (true));": api.ErrLimit, "table t (primary (a), check (true), unique (a), check (true));": api.ErrName,
		strings.Repeat("table t (a int, primary (a));", 7): api.ErrLimit, strings.Repeat("table t (a int, primary (a));", 7) + "table u (primary (a));": api.ErrName, "table t (unique (a));": api.ErrName, "table t (check (true));": api.ErrArity,
	} {
		checkSchemaError(t, text, want)
	}
}

func TestSchemaTellsTheFirstError(t *testing.T) {
	form := "table t (PART1, a int, PART2, b text, primary (a), PART3); table u (PART4, a int, primary (a), PART5); table NAME (a int, primary (a), foreign (a) references t);"
	right := map[string]string{"PART1": "c bool", "PART2": "check (a > 0)", "PART3": "foreign (a) references u", "PART4": "unique (a)", "PART5": "d bool", "NAME": "v"}
	faults := map[string]api.Errno{"unique (x)": api.ErrName, "unique (a, x)": api.ErrName, "foreign (x) references none": api.ErrName, "check (x = 1)": api.ErrName, "check (count(*) = 1)": api.ErrInvalid, "check (not not not a)": api.ErrType, "check (a in (" + strings.Repeat("1, ", 198) + "1))": api.ErrLimit}
	behind := map[string]api.Errno{"primary (a)": api.ErrDuplicate, "primary (x)": api.ErrDuplicate}
	late := map[string]api.Errno{"z int, z int": api.ErrDuplicate, "check (a)": api.ErrType, "unique (a, a)": api.ErrReference, "foreign (a) references none": api.ErrMissing}
	slots := []slot{{"PART1", faults}, {"PART2", faults}, {"PART3", faults}, {"PART3", behind}, {"PART4", faults}, {"PART5", faults}, {"PART5", behind}}
	for _, last := range []slot{{"PART1", late}, {"PART3", late}, {"PART5", late}, {"NAME", map[string]api.Errno{"t": api.ErrDuplicate}}} {
		checkOrder(form, right, append(slices.Clone(slots), last), func(text string, want api.Errno) { checkSchemaError(t, text, want) })
	}
}

// randomSchema returns a schema, which is valid if it has become one.
func (m maker) randomSchema() api.Schema {
	var s api.Schema
	for n := range m.IntN(api.MaxTables + 1) {
		table := api.Table{Name: "t" + strconv.Itoa(n)}
		for c := range 1 + m.IntN(api.MaxColumns) {
			table.Columns = append(table.Columns, api.Column{Name: "c" + strconv.Itoa(c), Type: api.Int + m.IntN(3), Nullable: m.IntN(3) == 0})
		}
		key := func() []int { return m.Perm(len(table.Columns))[:1+m.IntN(min(3, len(table.Columns)))] }
		table.Primary = key()
		for _, c := range table.Primary {
			table.Columns[c].Nullable = false
		}
		for range m.IntN(api.MaxUniques + 1) {
			table.Uniques = append(table.Uniques, key())
		}
		for range m.IntN(api.MaxChecks + 1) {
			table.Checks = append(table.Checks, m.expr(schema.Types(table), api.Bool, 4))
		}
		for _, other := range s.Tables {
			if l := key(); len(l) == len(other.Primary) && len(table.Foreigns) < api.MaxForeigns {
				table.Foreigns = append(table.Foreigns, api.Foreign{Columns: l, Table: other.Name})
			}
		}
		s.Tables = append(s.Tables, table)
	}
	m.Shuffle(len(s.Tables), func(i, k int) { s.Tables[i], s.Tables[k] = s.Tables[k], s.Tables[i] })
	return s
}

func TestSchemaText(t *testing.T) {
	m := maker{Rand: rand.New(rand.NewPCG(8, 8))}
	valid := 0
	for range 5000 {
		s := m.randomSchema()
		text := SchemaText(s)
		if schema.Valid(s) != api.OK {
			if text != "" {
				t.Fatalf("%v has the text %s", s, text)
			}
			continue
		}
		again, at, err := Schema(text)
		if len(text) > api.MaxSource {
			continue
		}
		if err != api.OK || at != 0 || !reflect.DeepEqual(again, s) {
			t.Fatalf("%s: %v, %d at %d, not %v", text, again, err, at, s)
		}
		if valid++; SchemaText(again) != text {
			t.Fatal(text)
		}
	}
	if valid < 1000 {
		t.Error(valid)
	}
}

func TestSchemaTextOfEachCheck(t *testing.T) {
	base := api.Table{Name: "t", Columns: []api.Column{{Name: "a", Type: api.Int}, {Name: "b", Type: api.Bool}, {Name: "c", Type: api.Text}}, Primary: []int{0}}
	null := func(t int) api.Expr { return expression.Constant(api.Value{}, t) }
	text := func(s string) api.Expr { return api.Expr{Op: api.OpText, Text: s} }
	l := []api.Expr{
		col(1), truth(0), null(api.Bool), op(api.OpSame, num(-api.MaxInt), num(api.MaxInt)), op(api.OpEq, op(api.OpNeg, num(5)), op(api.OpNeg, num(-5))), op(api.OpNe, text(""), text("abcdefghijklmnopqrstuvwx")), op(api.OpLt, op(api.OpConcat, col(2), op(api.OpConcat, null(api.Text), text("x y"))), col(2)),
		op(api.OpOr, op(api.OpAnd, col(1), op(api.OpOr, col(1), col(1))), op(api.OpNot, op(api.OpNot, op(api.OpIsNull, col(1))))), op(api.OpIsTrue, op(api.OpIsTrue, col(1))), op(api.OpIn, op(api.OpIn, col(0), num(1)), truth(1), col(1)), op(api.OpCase, col(1), op(api.OpEq, col(0), num(1)), col(1)), op(api.OpCoalesce, col(1), op(api.OpGe, op(api.OpSub, num(1), op(api.OpSub, col(0), num(-1))), op(api.OpMod, op(api.OpDiv, col(0), num(2)), op(api.OpMul, num(3), op(api.OpLength, col(2))))))}
	deep := col(1)
	for range api.MaxDepth - 1 {
		deep = op(api.OpNot, deep)
	}
	for _, check := range append(l, deep, op(api.OpIn, slices.Repeat([]api.Expr{num(-123456789)}, api.MaxNodes-1)...)) {
		table := base
		table.Checks = []api.Expr{check, l[0], check}
		if expression.Size(check) > 100 {
			table.Checks = table.Checks[:1]
		}
		s := api.Schema{Tables: []api.Table{table}}
		again, _, err := Schema(SchemaText(s))
		if schema.Valid(s) != api.OK || err != api.OK || !reflect.DeepEqual(again, s) {
			t.Errorf("%s: %d", SchemaText(s), err)
		}
	}
}

func TestSchemaTextOfWhatIsNotValid(t *testing.T) {
	for _, change := range []func(s *api.Schema){
		func(s *api.Schema) { s.Tables[0].Name = "table" }, func(s *api.Schema) { s.Tables[0].Primary = nil }, func(s *api.Schema) { s.Tables[1].Columns[0].Type = 0 }, func(s *api.Schema) { s.Tables[1].Uniques[0] = []int{9} }, func(s *api.Schema) { s.Tables[1].Foreigns[0].Columns = []int{-1} }, func(s *api.Schema) { s.Tables[0].Checks[0] = col(7) }, func(s *api.Schema) { s.Tables[0].Checks[0] = num(1) }, func(s *api.Schema) { s.Tables = append(s.Tables, api.Table{}) },
	} {
		s := testSchema(t)
		change(&s)
		if text := SchemaText(s); text != "" {
			t.Error(text)
		}
	}
	s := testSchema(t)
	if text := SchemaText(s); text == "" || !reflect.DeepEqual(s, testSchema(t)) {
		t.Error(text)
	}
	if text := SchemaText(api.Schema{}); text != "" {
		t.Error(text)
	}
}
