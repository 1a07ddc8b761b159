package sql

import "querylab/api"

// setWords are the words for FormUnion to FormIntersect.
func setWords() []string {
	return []string{"union", "except", "intersect"}
}

// joinWords are the words for 0 and JoinInner to JoinAnti.
func joinWords() []string {
	return []string{"cross", "inner", "left", "right", "full", "semi", "anti"}
}

func (p *parser) statement() api.Statement {
	s := p.core()
	for {
		set := p.choose(setWords()...)
		if set < 0 {
			return s
		}
		all := p.take("all")
		s = api.Statement{Form: api.FormUnion + set, All: all, Kids: []api.Statement{s, p.core()}}
	}
}

func (p *parser) core() api.Statement {
	if p.token == "(" {
		return bracketed(p, p.statement)
	}
	return p.selection()
}

func (p *parser) selection() api.Statement {
	p.expect("select")
	s := api.Statement{Form: api.FormSelect, Distinct: p.take("distinct"), Star: p.take("*")}
	if !s.Star {
		s.Items = list(p, p.item)
	}
	p.expect("from")
	s.From = p.source()
	s.Joins = p.joins()
	s.Where = p.condition("where")
	if p.take("group") {
		p.expect("by")
		s.Group = list(p, p.term)
	}
	s.Having = p.condition("having")
	return s
}

func (p *parser) item() api.Item {
	return api.Item{Term: p.term(), Name: p.alias()}
}

func (p *parser) alias() string {
	if p.take("as") {
		return p.name()
	}
	return ""
}

func (p *parser) source() api.Source {
	if p.token != "(" {
		return api.Source{Table: p.name(), Name: p.alias()}
	}
	s := bracketed(p, p.statement)
	p.expect("as")
	return api.Source{Query: []api.Statement{s}, Name: p.name()}
}

func (p *parser) joins() []api.Joined {
	var l []api.Joined
	for {
		kind := p.choose(joinWords()...)
		if kind < 0 && p.token != "join" {
			return l
		}
		l = append(l, p.join(kind))
	}
}

// join reads what stands behind the word for its kind, which is negative if there was none.
func (p *parser) join(kind int) api.Joined {
	p.expect("join")
	if kind < 0 {
		kind = api.JoinInner
	}
	j := api.Joined{Kind: kind, Source: p.source()}
	if kind != 0 {
		p.expect("on")
		j.On = []api.Term{p.term()}
	}
	return j
}

// condition reads the term behind a word, if the word is there.
func (p *parser) condition(word string) []api.Term {
	if !p.take(word) {
		return nil
	}
	return []api.Term{p.term()}
}
