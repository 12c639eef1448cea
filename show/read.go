package show

import (
	"slices"

	"rowan/api"
	"rowan/kinds"
	"rowan/lexis"
)

// Each rule of the grammar is a function. What is not OK leaves the reader at
// the token that is wrong.

// readType: t = atom [ -> t ]
func readType(r *lexis.Reader, level int) (api.Type, api.Code) {
	if level > api.MaxDepth {
		return api.Type{}, api.Deep
	}
	from, e := readAtom(r, level)
	if e != api.OK || !r.Skip("->") {
		return from, e
	}
	to, e := readType(r, level+1)
	if e != api.OK {
		return api.Type{}, e
	}
	return api.Type{Op: api.TFun, Kids: []api.Type{from, to}}, api.OK
}

// readAtom of a t of this level: atom = Int | Bool | ? | ( t ) | { row } | < row >
func readAtom(r *lexis.Reader, level int) (api.Type, api.Code) {
	switch {
	case r.Skip("Int"):
		return kinds.Int(), api.OK
	case r.Skip("Bool"):
		return kinds.Bool(), api.OK
	case r.Skip("?"):
		return kinds.Dyn(), api.OK
	case r.Skip("("):
		t, e := readType(r, level+1)
		if e != api.OK {
			return api.Type{}, e
		}
		return t, need(r, ")")
	case r.Skip("{"):
		return readRowOf(r, level, api.TRec, "}")
	case r.Skip("<"):
		return readRowOf(r, level, api.TVnt, ">")
	}
	return api.Type{}, api.Syntax
}

// readRowOf what has this Op, and ends with this sign.
func readRowOf(r *lexis.Reader, level int, op api.Op, end string) (api.Type, api.Code) {
	row, e := readRow(r, level)
	if e != api.OK {
		return api.Type{}, e
	}
	return api.Type{Op: op, Kids: []api.Type{row}}, need(r, end)
}

// readRow of a t of this level: row = [ field { , field } ] [ | ? ]
func readRow(r *lexis.Reader, level int) (api.Type, api.Code) {
	var l []api.Field
	for more := isName(r.Peek()); more; more = r.Skip(",") {
		f, e := readField(r, level)
		if e != api.OK {
			return api.Type{}, e
		}
		l = append(l, f)
	}
	row := api.Type{Op: api.RNil}
	if r.Skip("|") {
		row.Op = api.RDyn
		if e := need(r, "?"); e != api.OK {
			return api.Type{}, e
		}
	}
	for _, f := range slices.Backward(l) {
		row = api.Type{Op: api.RField, Name: f.Name, Kids: []api.Type{f.Type, row}}
	}
	return row, api.OK
}

// readField of a t of this level: field = word : t
func readField(r *lexis.Reader, level int) (api.Field, api.Code) {
	name := r.Peek()
	if !isName(name) {
		return api.Field{}, api.Syntax
	}
	r.Take()
	if e := need(r, ":"); e != api.OK {
		return api.Field{}, e
	}
	t, e := readType(r, level+1)
	return api.Field{Name: name.Text, Type: t}, e
}

// isName: is it a word? Who makes tokens by hand may call a word what is no name.
func isName(t api.Token) bool {
	return t.Kind == api.Word && lexis.IsWord(t.Text)
}

// need this sign to stand next, and go on.
func need(r *lexis.Reader, sign string) api.Code {
	if !r.Skip(sign) {
		return api.Syntax
	}
	return api.OK
}
