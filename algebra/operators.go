package algebra

import "querylab/api"

// The fields that an operator may use beside Kids.
const (
	hasTable = 1 << iota
	hasKind
	hasAll
	hasCond
	hasExprs
	hasAggs
	hasTypes
	hasRows
)

// operator is what the chapter's table says of an operator: its word, the fields that it uses, and the number of its Kids.
type operator struct {
	word string
	has  int
	kids int
}

var operators = [...]operator{
	api.QScan:      {"scan", hasTable, 0},
	api.QValues:    {"values", hasTypes | hasRows, 0},
	api.QSelect:    {"select", hasCond, 1},
	api.QProject:   {"project", hasExprs, 1},
	api.QJoin:      {"join", hasKind | hasCond, 2},
	api.QUnion:     {"union", hasAll, 2},
	api.QExcept:    {"except", hasAll, 2},
	api.QIntersect: {"intersect", hasAll, 2},
	api.QDistinct:  {"distinct", 0, 1},
	api.QGroup:     {"group", hasExprs | hasAggs, 1},
}

// find returns an operator, and whether the table has it. One that the table does not have still has a word.
func find(op int) (operator, bool) {
	if op < api.QScan || op >= len(operators) {
		return operator{word: unknown}, false
	}
	return operators[op], true
}

func (o operator) uses(field int) bool {
	return o.has&field != 0
}
