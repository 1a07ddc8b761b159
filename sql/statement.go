package sql

import (
	"querylab/api"
	"querylab/syntax"
)

// setWords are the words for FormUnion to FormIntersect.
func setWords() []string {
	return []string{"union", "except", "intersect"}
}

// joinWords are the words for 0 and JoinInner to JoinAnti.
func joinWords() []string {
	return []string{"cross", "inner", "left", "right", "full", "semi", "anti"}
}

func (p parser) statement() api.Statement {
	s := p.core()
	for {
		set := p.Choose(setWords()...)
		if set < 0 {
			return s
		}
		all := p.Take("all")
		s = api.Statement{Form: api.FormUnion + set, All: all, Kids: []api.Statement{s, p.core()}}
	}
}

func (p parser) core() api.Statement {
	if p.Token() == "(" {
		return syntax.Bracketed(p.Reader, p.statement)
	}
	return p.selection()
}

func (p parser) selection() api.Statement {
	p.Expect("select")
	s := api.Statement{Form: api.FormSelect, Distinct: p.Take("distinct"), Star: p.Take("*")}
	if !s.Star {
		s.Items = syntax.List(p.Reader, p.item)
	}
	p.Expect("from")
	s.From = p.source()
	s.Joins = p.joins()
	s.Where = p.condition("where")
	if p.Take("group") {
		p.Expect("by")
		s.Group = syntax.List(p.Reader, p.term)
	}
	s.Having = p.condition("having")
	return s
}

func (p parser) item() api.Item {
	return api.Item{Term: p.term(), Name: p.alias()}
}

func (p parser) alias() string {
	if p.Take("as") {
		return p.Name()
	}
	return ""
}

func (p parser) source() api.Source {
	if p.Token() != "(" {
		return api.Source{Table: p.Name(), Name: p.alias()}
	}
	s := syntax.Bracketed(p.Reader, p.statement)
	p.Expect("as")
	return api.Source{Query: []api.Statement{s}, Name: p.Name()}
}

func (p parser) joins() []api.Joined {
	var l []api.Joined
	for {
		kind := p.Choose(joinWords()...)
		if kind < 0 && p.Token() != "join" {
			return l
		}
		l = append(l, p.join(kind))
	}
}

// join reads what stands behind the word for its kind, which is negative if there was none.
func (p parser) join(kind int) api.Joined {
	p.Expect("join")
	if kind < 0 {
		kind = api.JoinInner
	}
	j := api.Joined{Kind: kind, Source: p.source()}
	if kind != 0 {
		p.Expect("on")
		j.On = []api.Term{p.term()}
	}
	return j
}

// condition reads the term behind a word, if the word is there.
func (p parser) condition(word string) []api.Term {
	if !p.Take(word) {
		return nil
	}
	return []api.Term{p.term()}
}
