package sql

import "querylab/api"

// The levels of the grammar at which a term can stand, from the tightest one on.
const (
	levelPrimary = iota
	levelUnary
	levelProduct
	levelSum
	levelComparison
	levelNot
	levelAnd
	levelOr
)

// operation is how an operation of expressions is written: its word or sign, its level, and the number of its Kids (the least one of OpIn).
type operation struct {
	word  string
	level int
	kids  int
}

var operations = [...]operation{
	api.OpAdd:      {"+", levelSum, 2},
	api.OpSub:      {"-", levelSum, 2},
	api.OpMul:      {"*", levelProduct, 2},
	api.OpDiv:      {"/", levelProduct, 2},
	api.OpMod:      {"mod", levelProduct, 2},
	api.OpNeg:      {"-", levelUnary, 1},
	api.OpConcat:   {"||", levelSum, 2},
	api.OpLength:   {"length", levelPrimary, 1},
	api.OpEq:       {"=", levelComparison, 2},
	api.OpNe:       {"<>", levelComparison, 2},
	api.OpLt:       {"<", levelComparison, 2},
	api.OpLe:       {"<=", levelComparison, 2},
	api.OpGt:       {">", levelComparison, 2},
	api.OpGe:       {">=", levelComparison, 2},
	api.OpSame:     {"same", levelComparison, 2},
	api.OpIsNull:   {"is null", levelComparison, 1},
	api.OpAnd:      {"and", levelAnd, 2},
	api.OpOr:       {"or", levelOr, 2},
	api.OpNot:      {"not", levelNot, 1},
	api.OpIsTrue:   {"is true", levelComparison, 1},
	api.OpCase:     {"case", levelPrimary, 3},
	api.OpCoalesce: {"coalesce", levelPrimary, 2},
	api.OpIn:       {"in", levelComparison, 2},
}

// find returns an operation, and whether the table has it. All else that a term can be is primary and has no Kids, like the zero operation, but for an aggregate's Kids.
func find(op int) (operation, bool) {
	if op < 0 || op >= len(operations) || operations[op].word == "" {
		return operation{}, false
	}
	return operations[op], true
}

// typeWords are the words for Int, Bool and Text.
func typeWords() []string {
	return []string{"int", "bool", "text"}
}

// aggWords are the words for AggSum to AggMax.
func aggWords() []string {
	return []string{"sum", "min", "max"}
}
