package expression

import "querylab/api"

// What an operation consists of beside its number: one field, or Kids.
const (
	hasType = iota
	hasNum
	hasText
	hasColumn
	hasOne
	hasTwo
	hasThree
	hasTwoOrMore
)

// alike stands in the place of a type: the Kids in whose place it stands all have one type, whichever it is.
const alike = -1

// operation is what the chapter's table says of an operation. OpNull and OpColumn give no type, because theirs lies elsewhere.
type operation struct {
	word   string
	has    int
	first  int // the type of the first one of Kids
	others int // the type of each other one
	gives  int // the type of the expression
}

var operations = [...]operation{
	api.OpNull:     {has: hasType},
	api.OpInt:      {has: hasNum, gives: api.Int},
	api.OpBool:     {has: hasNum, gives: api.Bool},
	api.OpText:     {has: hasText, gives: api.Text},
	api.OpColumn:   {has: hasColumn},
	api.OpAdd:      {"add", hasTwo, api.Int, api.Int, api.Int},
	api.OpSub:      {"sub", hasTwo, api.Int, api.Int, api.Int},
	api.OpMul:      {"mul", hasTwo, api.Int, api.Int, api.Int},
	api.OpDiv:      {"div", hasTwo, api.Int, api.Int, api.Int},
	api.OpMod:      {"mod", hasTwo, api.Int, api.Int, api.Int},
	api.OpNeg:      {word: "neg", has: hasOne, first: api.Int, gives: api.Int},
	api.OpConcat:   {"concat", hasTwo, api.Text, api.Text, api.Text},
	api.OpLength:   {word: "length", has: hasOne, first: api.Text, gives: api.Int},
	api.OpEq:       {"eq", hasTwo, alike, alike, api.Bool},
	api.OpNe:       {"ne", hasTwo, alike, alike, api.Bool},
	api.OpLt:       {"lt", hasTwo, alike, alike, api.Bool},
	api.OpLe:       {"le", hasTwo, alike, alike, api.Bool},
	api.OpGt:       {"gt", hasTwo, alike, alike, api.Bool},
	api.OpGe:       {"ge", hasTwo, alike, alike, api.Bool},
	api.OpSame:     {"same", hasTwo, alike, alike, api.Bool},
	api.OpIsNull:   {word: "isnull", has: hasOne, first: alike, gives: api.Bool},
	api.OpAnd:      {"and", hasTwo, api.Bool, api.Bool, api.Bool},
	api.OpOr:       {"or", hasTwo, api.Bool, api.Bool, api.Bool},
	api.OpNot:      {word: "not", has: hasOne, first: api.Bool, gives: api.Bool},
	api.OpIsTrue:   {word: "istrue", has: hasOne, first: api.Bool, gives: api.Bool},
	api.OpCase:     {"case", hasThree, api.Bool, alike, alike},
	api.OpCoalesce: {"coalesce", hasTwo, alike, alike, alike},
	api.OpIn:       {"in", hasTwoOrMore, alike, alike, api.Bool},
}

// find returns an operation, and whether the table has it.
func find(op int) (operation, bool) {
	if op < api.OpNull || op >= len(operations) {
		return operation{}, false
	}
	return operations[op], true
}

// takes reports whether the operation may have so many Kids.
func (o operation) takes(kids int) bool {
	switch o.has {
	case hasOne:
		return kids == 1
	case hasTwo:
		return kids == 2
	case hasThree:
		return kids == 3
	case hasTwoOrMore:
		return kids >= 2
	}
	return kids == 0
}

// result returns the type of the operation over Kids with these types, and whether they fit.
func (o operation) result(kids []int) (int, bool) {
	one := 0
	for i, t := range kids {
		want := o.others
		if i == 0 {
			want = o.first
		}
		if want == alike && one == 0 {
			one = t
		}
		if want == alike {
			want = one
		}
		if t != want {
			return 0, false
		}
	}
	if o.gives == alike {
		return one, true
	}
	return o.gives, true
}
