package demand

import (
	"math/rand/v2"
	"slices"
	"strconv"
	"strings"
	"testing"

	"querylab/api"
	"querylab/expression"
)

func sameDemand(a, b api.Demand) bool {
	return a.Rows == b.Rows && a.View.Table == b.View.Table && slices.Equal(a.View.Path, b.View.Path) && slices.EqualFunc(a.View.Cond, b.View.Cond, expression.Same)
}

func checkParse(t *testing.T, text string, want ...api.Demand) {
	t.Helper()
	if got, n, err := Parse(shop(), text); err != api.OK || n != 0 || !slices.EqualFunc(got, want, sameDemand) {
		t.Errorf("%q: %v, %d, %d", text, got, n, err)
	}
}

func checkError(t *testing.T, s api.Schema, text string, line int, err api.Errno) {
	t.Helper()
	if got, n, e := Parse(s, text); e != err || n != line || got != nil {
		t.Errorf("%q: %v, %d in line %d, and not %d in line %d", text, got, e, n, err, line)
	}
}

func TestParse(t *testing.T) {
	big := op(api.OpGt, col(0), lit(10))
	ulm := op(api.OpEq, col(11), str("Ulm"))
	for line, want := range map[string]api.Demand{
		"rows 5 of orders":                  {View: view("orders", nil), Rows: 5},
		"rows 0 of countries":               {View: view("countries", nil)},
		"rows 10 of orders":                 {View: view("orders", nil), Rows: 10},
		"rows 1000000 of orders":            {View: view("orders", nil), Rows: 1000000},
		"rows 987654 of orders.buyer":       {View: view("orders", []int{0}), Rows: 987654},
		"rows 1 of orders.payer":            {View: view("orders", []int{1}), Rows: 1},
		"rows 1 of orders.payer.city":       {View: view("orders", []int{1, 0}), Rows: 1},
		"rows 1 of customers.city.country":  {View: view("customers", []int{0, 0}), Rows: 1},
		"rows 1 of orders where amount >10": {View: view("orders", nil, big), Rows: 1},
		"rows 5 of orders.buyer.city where amount > 10 and t2.name = 'Ulm'":       {View: view("orders", []int{0, 0}, op(api.OpAnd, big, ulm)), Rows: 5},
		"rows 5 of orders.buyer.city where t0.amount > 10 and t2.name = 'Ulm'":    {View: view("orders", []int{0, 0}, op(api.OpAnd, big, ulm)), Rows: 5},
		"rows 5 of orders.buyer.city.country where t3.name = 'Ulm' or name = 'a'": {View: view("orders", []int{0, 0, 0}, op(api.OpOr, op(api.OpEq, col(15), str("Ulm")), op(api.OpEq, col(5), str("a")))), Rows: 5},
		"rows 1 of orders where paid":                                             {View: view("orders", nil, col(2)), Rows: 1},
		"rows 1 of orders.buyer where t1.vip":                                     {View: view("orders", []int{0}, col(9)), Rows: 1},
		"rows 1 of orders.buyer where t1.age is not null":                         {View: view("orders", []int{0}, op(api.OpNot, op(api.OpIsNull, col(6)))), Rows: 1},
		"rows 1 of orders where name = ' where '":                                 {View: view("orders", nil, op(api.OpEq, col(5), str(" where "))), Rows: 1},
		"rows 1 of orders where amount <= -5":                                     {View: view("orders", nil, op(api.OpLe, col(0), lit(-5))), Rows: 1},
		"rows 1 of orders where   not(amount<>5  or   paid = false )  ":           {View: view("orders", nil, op(api.OpNot, op(api.OpOr, op(api.OpNe, col(0), lit(5)), op(api.OpEq, col(2), api.Expr{Op: api.OpBool})))), Rows: 1},
		"rows 1 of cities where t1":                                               {View: view("cities", nil, col(3)), Rows: 1},
	} {
		checkParse(t, line, want)
		checkParse(t, line+"\n", want)
		checkParse(t, "\n\n"+line+"\n\n\n"+line, want, want)
	}
	checkParse(t, "")
	checkParse(t, "\n")
	checkParse(t, strings.Repeat("\n", api.MaxSource))
}

func TestParseTakesNames(t *testing.T) {
	// the sixth table of a chain, and each column by its own qualifier
	for k := range api.MaxTables {
		line := "rows 1 of f.up.up.up.up.up where t" + strconv.Itoa(k) + ".x = 1"
		l, _, err := Parse(full(), line)
		if err != api.OK || len(l) != 1 || !expression.Same(l[0].View.Cond[0], op(api.OpEq, col(k*3+1), lit(1))) {
			t.Errorf("%s: %v, %d", line, l, err)
		}
	}
	checkError(t, full(), "rows 1 of f.up.up.up.up.up where t6.x = 1", 1, api.ErrName)
	checkError(t, full(), "rows 1 of f.up.up.up.up.up.up", 1, api.ErrReference)
	for _, name := range []string{"age", "t1.amount", "t0.age", "t01.age", "t00.amount", "t.amount", "orders.amount", "customers.age", "buyer.age", "t2.name", "t10.age", "t1.t1", "nothing", "t0"} {
		checkError(t, shop(), "rows 1 of orders.buyer where "+name+" is null", 1, api.ErrName)
	}
}

// wrongForms lists lines that do not have the form of one.
func wrongForms() []string {
	return []string{
		" ", "  ", "rows", "rows ", "rows 5", "rows 5 ", "rows 5 of", "rows 5 of ", "rows 5 orders", "rows of orders", "5 of orders", "where", " where ", "rows 5 of where ",
		"rows  5 of orders", "rows 5  of orders", "rows 5 of  orders", " rows 5 of orders", "rows 5 of orders ", "rows 5 of orders\r", "rows\t5 of orders", "rows 5 of\torders", "rows 5 of orders;", "rows 5 of orders, orders", "rows 5 of orders orders",
		"Rows 5 of orders", "row 5 of orders", "rows 5 off orders", "rows 5 in orders", "rows 5 OF orders", "rowss 5 of orders",
		"rows -5 of orders", "rows +5 of orders", "rows 05 of orders", "rows 00 of orders", "rows 5. of orders", "rows 5x of orders", "rows x of orders", "rows 5_0 of orders", "rows 0x5 of orders", "rows 1e3 of orders", "rows - of orders", "rows \u0665 of orders", "rows 5\u00a0of orders",
		"rows 5 of orders.", "rows 5 of .orders", "rows 5 of orders..buyer", "rows 5 of orders. buyer", "rows 5 of orders .buyer", "rows 5 of orders.buyer.", "rows 5 of .", "rows 5 of orders.5", "rows 5 of 5", "rows 5 of Orders", "rows 5 of orders.Buyer", "rows 5 of or-ders", "rows 5 of select", "rows 5 of orders.table", "rows 5 of null", "rows 5 of _orders", "rows 5 of (orders)", "rows 5 of " + strings.Repeat("o", 17), "rows 5 of orders." + strings.Repeat("o", 17),
		"rows 5 of orders where", "rows 5 of orderswhere paid", "rows 5 of orders  where paid", "rows 5 of orders having paid", "rows 5 of orders Where paid", "rows 5 of orders wherepaid", "rows 5 of orders.where paid", "rows 5 of orders. where paid", "rows 5 of orders on paid", "rows 5 of orders where(paid)", "rows 5 of orders\twhere paid", "rows 5 of orders where\tpaid", "rows 5 where paid", "rows where 5 of orders", "where rows 5 of orders",
	}
}

func TestParseForms(t *testing.T) {
	for _, line := range wrongForms() {
		checkError(t, shop(), line, 1, api.ErrSyntax)
		checkError(t, shop(), "rows 5 of orders\n\n"+line+"\nrows 5 of none", 3, api.ErrSyntax)
	}
	for _, name := range []string{"o", "orders_2", "rows", "of", "t0", strings.Repeat("o", 16)} {
		checkError(t, shop(), "rows 5 of "+name, 1, api.ErrMissing)
		checkError(t, shop(), "rows 5 of orders."+name, 1, api.ErrReference)
	}
}

// TestParseOwnWords has tables and columns whose names are words of the form.
func TestParseOwnWords(t *testing.T) {
	s := api.Schema{Tables: []api.Table{
		{Name: "rows", Columns: []api.Column{{Name: "of", Type: api.Int}, {Name: "id", Type: api.Int}, {Name: "t1", Type: api.Bool}, {Name: "rows", Type: api.Bool}}, Primary: []int{1}, Foreigns: []api.Foreign{{Columns: []int{0}, Table: "of"}}},
		{Name: "of", Columns: []api.Column{{Name: "id", Type: api.Int}, {Name: "t0", Type: api.Bool}}, Primary: []int{0}},
	}}
	line := "rows 5 of rows.of where t1 and (rows and (t1.t0 and t0.t1))"
	l, n, err := Parse(s, line)
	want := op(api.OpAnd, col(2), op(api.OpAnd, col(3), op(api.OpAnd, col(5), col(2))))
	if err != api.OK || n != 0 || len(l) != 1 || !sameDemand(l[0], api.Demand{View: view("rows", []int{0}, want), Rows: 5}) {
		t.Error(l, n, err)
	}
	if again, _, err := Parse(s, Text(s, l)); err != api.OK || !slices.EqualFunc(again, l, sameDemand) {
		t.Error(Text(s, l), err)
	}
}

func TestParseErrors(t *testing.T) {
	for line, err := range map[string]api.Errno{
		"rows 1000001 of orders":                                                        api.ErrLimit,
		"rows 9223372036854775807 of orders":                                            api.ErrLimit,
		"rows 9223372036854775808 of orders":                                            api.ErrLimit,
		"rows 18446744073709551617 of orders":                                           api.ErrLimit,
		"rows 1" + strings.Repeat("0", 3000) + " of orders":                             api.ErrLimit,
		"rows 1 of order":                                                               api.ErrMissing,
		"rows 1 of buyer.city":                                                          api.ErrMissing,
		"rows 1 of orders.amount":                                                       api.ErrReference,
		"rows 1 of orders.id":                                                           api.ErrReference,
		"rows 1 of orders.customers":                                                    api.ErrReference,
		"rows 1 of orders.buyer.payer":                                                  api.ErrReference,
		"rows 1 of orders.buyer.city.country.id":                                        api.ErrReference,
		"rows 1 of orders where ":                                                       api.ErrSyntax,
		"rows 1 of orders where  ":                                                      api.ErrSyntax,
		"rows 1 of orders where where paid":                                             api.ErrSyntax,
		"rows 1 of orders where paid where paid":                                        api.ErrSyntax,
		"rows 1 of orders where paid;":                                                  api.ErrSyntax,
		"rows 1 of orders where amount > 10 and":                                        api.ErrSyntax,
		"rows 1 of orders where amount > 010":                                           api.ErrSyntax,
		"rows 1 of orders where name = 'a":                                              api.ErrSyntax,
		"rows 1 of orders where t0.t0.amount > 10":                                      api.ErrSyntax,
		"rows 1 of orders where paid\r":                                                 api.ErrSyntax,
		"rows 1 of orders where " + strings.Repeat("not ", 24) + "x":                    api.ErrDepth,
		"rows 1 of orders where none":                                                   api.ErrName,
		"rows 1 of orders where count(*) > 1":                                           api.ErrInvalid,
		"rows 1 of orders where paid and max(none) = 1":                                 api.ErrInvalid,
		"rows 1 of orders where paid and none = min(amount)":                            api.ErrName,
		"rows 1 of orders where paid or sum(amount) > none":                             api.ErrInvalid,
		"rows 1 of orders where none is null or count(paid) in (1)":                     api.ErrName,
		"rows 1 of orders where amount in (1, 2, none, count(*))":                       api.ErrName,
		"rows 1 of orders where amount in (1, 2, count(*), none)":                       api.ErrInvalid,
		"rows 1 of orders where case when none then count(*) = 1 else paid end":         api.ErrName,
		"rows 1 of orders where case when paid then count(*) = none else none end":      api.ErrInvalid,
		"rows 1 of orders where paid or paid" + strings.Repeat(" or paid", 20) + " ":    api.OK,
		"rows 1 of orders where paid in (paid" + strings.Repeat(", paid", 199) + ")":    api.ErrLimit,
		"rows 1 of orders where amount":                                                 api.ErrType,
		"rows 1 of orders where 1":                                                      api.ErrType,
		"rows 1 of orders where amount > 'a'":                                           api.ErrType,
		"rows 1 of orders where not amount":                                             api.ErrType,
		"rows 1 of orders where true":                                                   api.ErrFragment,
		"rows 1 of orders where null bool":                                              api.ErrFragment,
		"rows 1 of orders where amount = null int":                                      api.ErrFragment,
		"rows 1 of orders where 10 < amount":                                            api.ErrFragment,
		"rows 1 of orders where amount = amount":                                        api.ErrFragment,
		"rows 1 of orders where amount + 1 = 2":                                         api.ErrFragment,
		"rows 1 of orders where amount = - 5":                                           api.OK,
		"rows 1 of orders where amount = -(5)":                                          api.ErrFragment,
		"rows 1 of orders where amount = - 0":                                           api.ErrFragment,
		"rows 1 of orders where amount same 1":                                          api.ErrFragment,
		"rows 1 of orders where amount in (1)":                                          api.ErrFragment,
		"rows 1 of orders where paid is true":                                           api.ErrFragment,
		"rows 1 of orders where paid < true":                                            api.ErrFragment,
		"rows 1 of orders where name < 'a'":                                             api.ErrFragment,
		"rows 1 of orders where id = 1":                                                 api.ErrFragment,
		"rows 1 of orders where buyer is null":                                          api.ErrFragment,
		"rows 1 of orders.buyer where buyer = t1.id":                                    api.ErrFragment,
		"rows 1 of orders where length(name) = 1":                                       api.ErrFragment,
		"rows 1 of orders where coalesce(paid, false)":                                  api.ErrFragment,
		"rows 1 of orders where case when paid then true else false end and amount = 1": api.ErrFragment,
	} {
		number := 1
		if err == api.OK {
			number = 0
		}
		if _, n, got := Parse(shop(), line); got != err || n != number {
			t.Errorf("%s: %d in line %d, and not %d", line, got, n, err)
		}
	}
}

// flaw is what may be wrong with a line, and its error.
type flaw struct {
	change func(l *line)
	err    api.Errno
}

// line has the parts of a line.
type line struct{ before, number, chain, condition, behind string }

func (l line) text() string {
	return "rows " + l.before + l.number + " of " + l.chain + " where " + l.condition + l.behind
}

// flaws are in the order of their errors.
func flaws() []flaw {
	add := func(part string) func(l *line) {
		return func(l *line) { l.condition += " or " + part }
	}
	return []flaw{
		{func(l *line) { l.before = " " }, api.ErrSyntax},
		{func(l *line) { l.number = "2000000" }, api.ErrLimit},
		{func(l *line) { l.chain = "none" + strings.TrimPrefix(l.chain, "orders") }, api.ErrMissing},
		{func(l *line) { l.chain += ".name" }, api.ErrReference},
		{func(l *line) { l.behind = " and" }, api.ErrSyntax},
		{func(l *line) { l.condition += " and " + strings.Repeat("not ", 24) + "paid" }, api.ErrDepth},
		{add("none"), api.ErrName},
		{add("max(paid)"), api.ErrInvalid},
		{add("paid in (paid" + strings.Repeat(", paid", 199) + ")"), api.ErrLimit},
		{add("amount = name"), api.ErrType},
		{add("1 = amount"), api.ErrFragment},
	}
}

func TestParseOrderOfErrors(t *testing.T) {
	for i, a := range flaws() {
		for k, b := range flaws()[i:] {
			l := line{number: "5", chain: "orders.buyer", condition: "paid"}
			b.change(&l)
			a.change(&l)
			want := a.err
			if a.err == api.ErrName && b.err == api.ErrInvalid {
				want = api.ErrInvalid // it stands further left
			}
			checkError(t, shop(), l.text(), 1, want)
			l = line{number: "5", chain: "orders.buyer", condition: "paid"}
			a.change(&l)
			if k > 0 {
				b.change(&l)
			}
			checkError(t, shop(), "\n"+l.text(), 2, a.err)
			// the first line with an error counts, whichever error it is
			one, other := line{number: "1", chain: "orders", condition: "paid"}, line{number: "1", chain: "orders", condition: "paid"}
			b.change(&one)
			a.change(&other)
			checkError(t, shop(), "rows 1 of orders\n\n"+one.text()+"\n"+other.text(), 3, b.err)
		}
	}
}

func TestParseLimits(t *testing.T) {
	one := api.Demand{View: view("cities", nil), Rows: 1}
	line := "rows 1 of cities\n"
	for _, c := range []struct {
		text  string
		lines int
	}{
		{strings.Repeat(line, 16), 16},
		{strings.Repeat("\n"+line+"\n", 16), 16},
		{strings.Repeat(line, 15) + "rows 1 of cities", 16},
		{strings.Repeat("\n", api.MaxSource-len(line)) + line, 1},
		{line + strings.Repeat("\n", api.MaxSource-len(line)), 1},
	} {
		checkParse(t, c.text, slices.Repeat([]api.Demand{one}, c.lines)...)
	}
	for _, text := range []string{
		strings.Repeat(line, 17), strings.Repeat(line, 16) + "x", strings.Repeat("x\n", 17), "x\n" + strings.Repeat("\n"+line, 16), strings.Repeat(" \n", 17), strings.Repeat("rows 9999999 of none\n", 17),
		strings.Repeat("\n", api.MaxSource+1), line + strings.Repeat("\n", api.MaxSource-len(line)+1), "x" + strings.Repeat("\n", api.MaxSource), strings.Repeat("x", api.MaxSource+1), strings.Repeat("x\n", 1000000),
	} {
		checkError(t, shop(), text, 0, api.ErrLimit)
		checkError(t, circle(), text, 0, api.ErrInvalid)
	}
	checkError(t, shop(), strings.Repeat("x", api.MaxSource), 1, api.ErrSyntax)
	checkError(t, shop(), strings.Repeat(line, 15)+"\n"+"x", 17, api.ErrSyntax)
	for _, text := range []string{"", "x", line, "rows 1 of a"} {
		checkError(t, circle(), text, 0, api.ErrInvalid)
	}
	checkError(t, api.Schema{}, line, 1, api.ErrMissing)
}

// TestParseOfAnyText changes bytes of texts: whatever comes, there is no panic, and what is taken has a text again.
func TestParseOfAnyText(t *testing.T) {
	r := rand.New(rand.NewPCG(5, 14))
	start := "rows 5 of orders.buyer.city where amount > 10 and not t2.name = 'Ulm'\nrows 12 of customers\n"
	taken, refused := 0, 0
	for range 20000 {
		b := []byte(start)
		for range 1 + r.IntN(2) {
			k := r.IntN(len(b))
			switch r.IntN(3) {
			case 0:
				b = slices.Delete(b, k, min(len(b), k+1+r.IntN(3)))
			case 1:
				b[k] = start[r.IntN(len(start))]
			case 2:
				b = slices.Insert(b, k, start[r.IntN(len(start))])
			}
		}
		l, n, err := Parse(shop(), string(b))
		if err != api.OK {
			refused++
			if l != nil || n < 1 || n > strings.Count(string(b), "\n")+1 {
				t.Fatalf("%q: %v, %d, %d", b, l, n, err)
			}
			continue
		}
		taken++
		if again, _, err := Parse(shop(), Text(shop(), l)); n != 0 || err != api.OK || !slices.EqualFunc(again, l, sameDemand) {
			t.Fatalf("%q: %v, %d, and then %v, %d", b, l, n, again, err)
		}
	}
	if taken < 500 || refused < 1000 {
		t.Errorf("%d, %d", taken, refused)
	}
}
