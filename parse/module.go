package parse

import (
	"bytes"

	"rowan/api"
)

// module of the text b: its definitions.
func (p *parser) module(b []byte) []api.Def {
	var l []api.Def
	known := map[string]bool{}
	for !p.atEnd() {
		d := p.definition(b, known)
		known[d.Name] = true
		l = append(l, d)
	}
	return l
}

// definition in the text b, beside those whose names are known: def word =,
// and all up to the next def.
func (p *parser) definition(b []byte, known map[string]bool) api.Def {
	p.need("def")
	if known[p.in.Peek().Text] {
		p.fail(api.Name)
	}
	name := p.word()
	from := p.here() + len("=")
	p.need("=")
	for !p.in.Is("def") && !p.atEnd() {
		p.in.Take()
	}
	if p.code != api.OK {
		return api.Def{}
	}
	return api.Def{Name: name, Text: bytes.Clone(b[from:p.here()])}
}
