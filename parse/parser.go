package parse

import (
	"rowan/api"
	"rowan/lexis"
	"rowan/show"
)

// node of a term, and its place. Its Kids are kept apart, with theirs.
type node struct {
	term api.Term
	at   int
	kids []node
}

// tell the term of a node; the places of its nodes go behind those in l.
func (n *node) tell(l []int) (api.Term, []int) {
	t := n.term
	l = append(l, n.at)
	for i := range n.kids {
		var kid api.Term
		kid, l = n.kids[i].tell(l)
		t.Kids = append(t.Kids, kid)
	}
	return t, l
}

// parser of tokens. Rules don't tell each other that something is wrong: the
// first fault is kept, and no tokens are left then, so that every rule ends.
type parser struct {
	in    *lexis.Reader
	count int // of nodes
	at    int
	code  api.Code
}

// fail at the token where the reader is.
func (p *parser) fail(code api.Code) node {
	if p.code == api.OK {
		p.at, p.code = p.here(), code
		p.in = lexis.NewReader(nil)
	}
	return node{}
}

// here: the place of the next token.
func (p *parser) here() int {
	return p.in.Peek().At
}

func (p *parser) atEnd() bool {
	return p.in.Peek().Kind == api.End
}

func (p *parser) node(at int, t api.Term, kids ...node) node {
	p.count++
	return node{term: t, at: at, kids: kids}
}

// need this sign to stand next, and go on.
func (p *parser) need(sign string) {
	if !p.in.Skip(sign) {
		p.fail(api.Syntax)
	}
}

// word that stands next.
func (p *parser) word() string {
	if p.in.Peek().Kind != api.Word {
		p.fail(api.Syntax)
		return ""
	}
	return p.in.Take().Text
}

// typ of this level: t
func (p *parser) typ(level int) api.Type {
	t, _, e := show.Read(p.in, level)
	if e != api.OK {
		p.fail(e)
	}
	return t
}
