package parse

import (
	"slices"

	"rowan/api"
)

// Each rule of the grammar is a method. Its level is that of the e in which it
// stands, raised by the @ and ^ around it.

// whole text: e, and nothing behind it.
func (p *parser) whole() node {
	n := p.expr(1)
	if !p.atEnd() {
		return p.fail(api.Syntax)
	}
	return n
}

// expr of this level: e
func (p *parser) expr(level int) node {
	if level > api.MaxDepth {
		return p.fail(api.Deep)
	}
	at := p.here()
	switch {
	case p.in.Skip("fun"):
		return p.function(at, api.Term{Op: api.EFun}, level)
	case p.in.Skip("rec"):
		return p.function(at, api.Term{Op: api.ERec, Name: p.word()}, level)
	case p.in.Skip("let"):
		return p.let(at, level)
	case p.in.Skip("if"):
		return p.choice(at, level)
	}
	return p.comparison(level)
}

// function: param { param } => e, behind what begins it. The first param is
// put into t.
func (p *parser) function(at int, t api.Term, level int) node {
	heads := []node{p.param(at, t, level)}
	for p.in.Is("(") || p.in.Peek().Kind == api.Word {
		heads = append(heads, p.param(p.here(), api.Term{Op: api.EFun}, level))
	}
	p.need("=>")
	n := p.expr(level + 1)
	for _, head := range slices.Backward(heads) {
		n = p.node(head.at, head.term, n)
	}
	return n
}

// param, put into t: word | ( word : t )
func (p *parser) param(at int, t api.Term, level int) node {
	t.Has = p.in.Skip("(")
	t.Arg = p.word()
	if t.Has {
		p.need(":")
		t.Ann = p.typ(level + 1)
		p.need(")")
	}
	return node{term: t, at: at}
}

// let: word = e in e
func (p *parser) let(at, level int) node {
	t := api.Term{Op: api.ELet, Name: p.word()}
	p.need("=")
	what := p.expr(level + 1)
	p.need("in")
	where := p.expr(level + 1)
	return p.node(at, t, what, where)
}

// choice behind if: e then e else e
func (p *parser) choice(at, level int) node {
	which := p.expr(level + 1)
	p.need("then")
	yes := p.expr(level + 1)
	p.need("else")
	no := p.expr(level + 1)
	return p.node(at, api.Term{Op: api.EIf}, which, yes, no)
}

// comparison: sum [ ( < | == ) sum ]
func (p *parser) comparison(level int) node {
	at := p.here()
	left := p.sum(level)
	if !p.in.Is("<") && !p.in.Is("==") {
		return left
	}
	t := api.Term{Op: api.EBin, Name: p.in.Take().Text}
	return p.node(at, t, left, p.sum(level))
}

// sum: prod { ( + | - ) prod }
func (p *parser) sum(level int) node {
	return p.chain(level, p.prod, "+", "-")
}

// prod: app { ( * | / | % ) app }
func (p *parser) prod(level int) node {
	return p.chain(level, p.app, "*", "/", "%")
}

// chain of what a rule reads, with signs between, from the left.
func (p *parser) chain(level int, rule func(level int) node, signs ...string) node {
	at := p.here()
	left := rule(level)
	for slices.ContainsFunc(signs, p.in.Is) {
		t := api.Term{Op: api.EBin, Name: p.in.Take().Text}
		left = p.node(at, t, left, rule(level))
	}
	return left
}

// app: pre { pre }
func (p *parser) app(level int) node {
	at := p.here()
	left := p.pre(level)
	for beginsPre(p.in.Peek()) {
		left = p.node(at, api.Term{Op: api.EApp}, left, p.pre(level))
	}
	return left
}

func beginsPre(t api.Token) bool {
	switch t.Kind {
	case api.Word, api.Number:
		return true
	case api.Sign:
		switch t.Text {
		case "@", "^", "true", "false", "(", "{", "case":
			return true
		}
	}
	return false
}

// pre: @ word pre | ^ word pre | post
func (p *parser) pre(level int) node {
	if level > api.MaxDepth {
		return p.fail(api.Deep)
	}
	t := api.Term{Op: api.EInj}
	at := p.here()
	switch {
	case p.in.Skip("@"):
	case p.in.Skip("^"):
		t.Op = api.EEmb
	default:
		return p.post(level)
	}
	t.Name = p.word()
	return p.node(at, t, p.pre(level+1))
}

// post: atom { . word | \ word }
func (p *parser) post(level int) node {
	at := p.here()
	n := p.atom(level)
	for {
		t := api.Term{Op: api.ESel}
		switch {
		case p.in.Skip("."):
		case p.in.Skip("\\"):
			t.Op = api.ECut
		default:
			return n
		}
		t.Name = p.word()
		n = p.node(at, t, n)
	}
}

// atom: word | number | true | false | ( e ) | ( e : t ) | record | case
func (p *parser) atom(level int) node {
	t := p.in.Peek()
	switch {
	case t.Kind == api.Word:
		return p.node(t.At, api.Term{Op: api.EVar, Name: p.in.Take().Text})
	case t.Kind == api.Number:
		return p.node(t.At, api.Term{Op: api.EInt, N: p.in.Take().N})
	case p.in.Skip("true"):
		return p.node(t.At, api.Term{Op: api.EBool, N: 1})
	case p.in.Skip("false"):
		return p.node(t.At, api.Term{Op: api.EBool})
	case p.in.Skip("("):
		return p.bracket(t.At, level)
	case p.in.Skip("{"):
		return p.record(t.At, level)
	case p.in.Skip("case"):
		return p.cases(t.At, level)
	}
	return p.fail(api.Syntax)
}

// bracket behind its (: e ) | e : t )
func (p *parser) bracket(at, level int) node {
	n := p.expr(level + 1)
	if p.in.Skip(":") {
		t := api.Term{Op: api.EAnn, Has: true, Ann: p.typ(level + 1)}
		n = p.node(at, t, n)
	}
	p.need(")")
	return n
}

// record behind its {: } | word = e { , word = e } [ | e ] } | word := e | e }
func (p *parser) record(at, level int) node {
	if p.in.Skip("}") {
		return p.node(at, api.Term{Op: api.ENil})
	}
	label := p.word()
	if p.in.Skip(":=") {
		return p.update(at, label, level)
	}
	heads := []node{p.field(at, label, level)}
	for p.in.Skip(",") {
		further := p.here()
		heads = append(heads, p.field(further, p.word(), level))
	}
	n := p.rest(level)
	for _, head := range slices.Backward(heads) {
		n = p.node(head.at, head.term, head.kids[0], n)
	}
	return n
}

// update behind its :=: e | e }
func (p *parser) update(at int, label string, level int) node {
	what := p.expr(level + 1)
	p.need("|")
	of := p.expr(level + 1)
	p.need("}")
	return p.node(at, api.Term{Op: api.EUpd, Name: label}, what, of)
}

// field behind its label: = e. The record that it extends is still to come.
func (p *parser) field(at int, label string, level int) node {
	p.need("=")
	t := api.Term{Op: api.EExt, Name: label}
	return node{term: t, at: at, kids: []node{p.expr(level + 1)}}
}

// rest of a record, behind its fields: [ | e ] }
func (p *parser) rest(level int) node {
	if p.in.Skip("|") {
		n := p.expr(level + 1)
		p.need("}")
		return n
	}
	n := p.node(p.here(), api.Term{Op: api.ENil})
	p.need("}")
	return n
}

// cases behind case: e of [ arm { ; arm } [ ; last ] | last ] end
func (p *parser) cases(at, level int) node {
	kids := []node{p.expr(level + 1)}
	p.need("of")
	for more := !p.in.Is("end"); more; more = p.in.Skip(";") {
		if p.in.Is("else") {
			kids = append(kids, p.last(level))
			break
		}
		kids = append(kids, p.arm(level))
	}
	p.need("end")
	return p.node(at, api.Term{Op: api.ECase}, kids...)
}

// arm: word word => e
func (p *parser) arm(level int) node {
	at := p.here()
	return p.branch(at, api.Term{Op: api.EArm, Name: p.word()}, level)
}

// last: else word => e
func (p *parser) last(level int) node {
	at := p.here()
	p.need("else")
	return p.branch(at, api.Term{Op: api.EElse}, level)
}

// branch of a case, behind what begins it: word => e
func (p *parser) branch(at int, t api.Term, level int) node {
	t.Arg = p.word()
	p.need("=>")
	return p.node(at, t, p.expr(level+1))
}
