package show

import (
	"strconv"
	"strings"

	"rowan/api"
)

// piece of a text: just a text, and behind it that of a type or row, if there is one.
type piece struct {
	text string
	of   *api.Type
}

// printer of types. What is still to be told is kept in a list, the next one
// last: trees may be nested deeper than calls.
type printer struct {
	out   strings.Builder
	ahead []piece
}

// textOf a canonical type.
func textOf(t api.Type) string {
	p := printer{ahead: []piece{{of: &t}}}
	for len(p.ahead) > 0 {
		last := len(p.ahead) - 1
		next := p.ahead[last]
		p.ahead = p.ahead[:last]
		p.out.WriteString(next.text)
		if next.of != nil {
			p.part(next.of)
		}
	}
	return p.out.String()
}

// then: these pieces are told next, in this order.
func (p *printer) then(first, second piece) {
	p.ahead = append(p.ahead, second, first)
}

// part: a type or row is told, its Kids later on.
func (p *printer) part(t *api.Type) {
	switch t.Op {
	case api.TInt:
		p.out.WriteString("Int")
	case api.TBool:
		p.out.WriteString("Bool")
	case api.TDyn:
		p.out.WriteString("?")
	case api.TVar:
		p.out.WriteString("'" + strconv.Itoa(t.N))
	case api.TFun:
		p.function(&t.Kids[0], &t.Kids[1])
	case api.TRec:
		p.then(piece{text: "{", of: &t.Kids[0]}, piece{text: "}"})
	case api.TVnt:
		p.then(piece{text: "<", of: &t.Kids[0]}, piece{text: ">"})
	case api.RDyn:
		p.out.WriteString("|?")
	case api.RVar:
		p.out.WriteString("|'" + strconv.Itoa(t.N))
	case api.RField:
		p.field(t.Name, &t.Kids[0], &t.Kids[1])
	}
}

func (p *printer) function(from, to *api.Type) {
	if from.Op == api.TFun {
		p.then(piece{text: "(", of: from}, piece{text: ")->", of: to})
	} else {
		p.then(piece{of: from}, piece{text: "->", of: to})
	}
}

func (p *printer) field(name string, t, behind *api.Type) {
	between := ""
	if behind.Op == api.RField {
		between = ","
	}
	p.then(piece{text: name + ":", of: t}, piece{text: between, of: behind})
}
