package sql

import (
	"querylab/api"
	"querylab/expression"
	"querylab/schema"
	"querylab/syntax"
	"querylab/value"
)

func (p parser) term() api.Term {
	return p.chain(p.and, api.OpOr)
}

func (p parser) and() api.Term {
	return p.chain(p.not, api.OpAnd)
}

func (p parser) sum() api.Term {
	return p.chain(p.product, api.OpAdd, api.OpSub, api.OpConcat)
}

func (p parser) product() api.Term {
	return p.chain(p.unary, api.OpMul, api.OpDiv, api.OpMod)
}

// chain reads one part or more, with these operations between them, from left to right.
func (p parser) chain(part func() api.Term, ops ...int) api.Term {
	t := part()
	for {
		op, ok := p.operator(ops...)
		if !ok {
			return t
		}
		t = operate(op, t, part())
	}
}

// operator goes behind the present token if it is the sign of one of these operations.
func (p parser) operator(ops ...int) (int, bool) {
	for _, op := range ops {
		if o, ok := find(op); ok && p.Take(o.word) {
			return op, true
		}
	}
	return 0, false
}

func operate(op int, kids ...api.Term) api.Term {
	return api.Term{Op: op, Kids: kids}
}

func (p parser) not() api.Term {
	if p.Take("not") {
		return operate(api.OpNot, p.not())
	}
	return p.comparison()
}

func (p parser) comparison() api.Term {
	t := p.sum()
	op, ok := p.operator(api.OpEq, api.OpNe, api.OpLt, api.OpLe, api.OpGt, api.OpGe, api.OpSame)
	switch {
	case ok:
		return operate(op, t, p.sum())
	case p.Take("is"):
		return p.property(t)
	case p.Take("in"):
		return operate(api.OpIn, append([]api.Term{t}, p.arguments()...)...)
	}
	return t
}

// property reads what stands behind is.
func (p parser) property(t api.Term) api.Term {
	if p.Take("true") {
		return operate(api.OpIsTrue, t)
	}
	negated := p.Take("not")
	p.Expect("null")
	t = operate(api.OpIsNull, t)
	if negated {
		return operate(api.OpNot, t)
	}
	return t
}

func (p parser) unary() api.Term {
	if !p.Take("-") {
		return p.primary()
	}
	// Only a number that is not 0 has a text that begins with the sign.
	if v, err := value.Parse("-" + p.Token()); err == api.OK {
		p.Next()
		return constant(v, api.Int)
	}
	return operate(api.OpNeg, p.unary())
}

func (p parser) primary() api.Term {
	if v, err := value.Parse(p.Token()); err == api.OK && v.Kind != api.Null {
		p.Next()
		return constant(v, v.Kind)
	}
	if schema.Name(p.Token()) {
		return p.column()
	}
	if p.Token() == "(" {
		return syntax.Bracketed(p.Reader, p.term)
	}
	return p.special()
}

func constant(v api.Value, t int) api.Term {
	e := expression.Constant(v, t)
	return api.Term{Op: e.Op, Type: e.Type, Num: e.Num, Text: e.Text}
}

func (p parser) column() api.Term {
	first := p.Name()
	if p.Take(".") {
		return api.Term{Op: api.TermName, Qualifier: first, Text: p.Name()}
	}
	return api.Term{Op: api.TermName, Text: first}
}

// special reads a term that begins with a word of its own.
func (p parser) special() api.Term {
	switch {
	case p.Take("null"):
		return p.null()
	case p.Take("length"):
		return operate(api.OpLength, syntax.Bracketed(p.Reader, p.term))
	case p.Take("coalesce"):
		return p.coalesce()
	case p.Take("case"):
		return p.choice()
	case p.Take("count"):
		return syntax.Bracketed(p.Reader, p.counted)
	}
	agg := p.Choose(aggWords()...)
	if agg < 0 {
		p.Stop()
	}
	return aggregate(api.AggSum+agg, syntax.Bracketed(p.Reader, p.term))
}

func (p parser) null() api.Term {
	t := p.Choose(typeWords()...)
	if t < 0 {
		p.Stop()
	}
	return constant(api.Value{}, api.Int+t)
}

func (p parser) arguments() []api.Term {
	return syntax.Bracketed(p.Reader, func() []api.Term { return syntax.List(p.Reader, p.term) })
}

func (p parser) coalesce() api.Term {
	p.Expect("(")
	first := p.term()
	p.Expect(",")
	second := p.term()
	p.Expect(")")
	return operate(api.OpCoalesce, first, second)
}

func (p parser) choice() api.Term {
	p.Expect("when")
	cond := p.term()
	p.Expect("then")
	yes := p.term()
	p.Expect("else")
	no := p.term()
	p.Expect("end")
	return operate(api.OpCase, cond, yes, no)
}

// counted reads what stands in the brackets of count.
func (p parser) counted() api.Term {
	switch {
	case p.Take("*"):
		return aggregate(api.AggRows)
	case p.Take("distinct"):
		return aggregate(api.AggDistinct, p.term())
	}
	return aggregate(api.AggCount, p.term())
}

func aggregate(fun int, kids ...api.Term) api.Term {
	return api.Term{Op: api.TermAgg, Num: int64(fun), Kids: kids}
}
