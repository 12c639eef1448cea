package prec

import (
	"fmt"
	"math/rand/v2"
	"strings"
	"testing"

	"rowan/api"
	"rowan/kinds"
	"rowan/parse"
	"rowan/show"
	"rowan/tree"
)

var (
	whole  = api.Type{Op: api.TInt}
	truth  = api.Type{Op: api.TBool}
	dyn    = api.Type{Op: api.TDyn}
	nilRow = api.Type{Op: api.RNil}
	dynRow = api.Type{Op: api.RDyn}
)

func variable(n int) api.Type {
	return api.Type{Op: api.TVar, N: n}
}

func rowVariable(n int) api.Type {
	return api.Type{Op: api.RVar, N: n}
}

func field(name string, t, behind api.Type) api.Type {
	return api.Type{Op: api.RField, Name: name, Kids: []api.Type{t, behind}}
}

func node(op api.Op, kids ...api.Type) api.Type {
	return api.Type{Op: op, Kids: kids}
}

// kind: the type of a text, or, if | stands ahead of it, the row of that record's text.
func kind(t *testing.T, text string) api.Type {
	t.Helper()
	rest, isRow := strings.CutPrefix(text, "|")
	out, at, e := show.Parse([]byte(rest))
	if e != api.OK {
		t.Fatalf("Parse of %q: %d, %v", rest, at, e)
	}
	if isRow {
		return out.Kids[0]
	}
	return out
}

// term of a text.
func term(t *testing.T, text string) api.Term {
	t.Helper()
	out, _, at, e := parse.Expr([]byte(text))
	if e != api.OK {
		t.Fatalf("Expr of %q: %d, %v", text, at, e)
	}
	return out
}

// dump of a tree, part by part, right or not: two are alike just if their dumps are.
func dump(t api.Type) string {
	var b strings.Builder
	fmt.Fprintf(&b, "(%d %q %d", t.Op, t.Name, t.N)
	for _, k := range t.Kids {
		b.WriteString(dump(k))
	}
	b.WriteString(")")
	return b.String()
}

func dumpTerm(t api.Term) string {
	var b strings.Builder
	fmt.Fprintf(&b, "[%d %q %q %d %v %s", t.Op, t.Name, t.Arg, t.N, t.Has, dump(t.Ann))
	for _, k := range t.Kids {
		b.WriteString(dumpTerm(k))
	}
	b.WriteString("]")
	return b.String()
}

func checkAlike(t *testing.T, what string, got, want api.Type) {
	t.Helper()
	if g, w := dump(got), dump(want); g != w {
		t.Errorf("%s: %.300s; want %.300s", what, g, w)
	}
}

func checkAlikeTerms(t *testing.T, what string, got, want api.Term) {
	t.Helper()
	if g, w := dumpTerm(got), dumpTerm(want); g != w {
		t.Errorf("%s: %.400s; want %.400s", what, g, w)
	}
}

// isRight: is it a right type, or a right row?
func isRight(t api.Type) bool {
	return kinds.Right(t) || kinds.Row(t)
}

// partAt: the part with that number, to be changed where it is.
func partAt(t *api.Type, n int) *api.Type {
	if n == 0 {
		return t
	}
	n--
	for i := range t.Kids {
		size := kinds.Size(t.Kids[i])
		if n < size {
			return partAt(&t.Kids[i], n)
		}
		n -= size
	}
	return nil
}

// nodeAt: the node with that number, to be changed where it is.
func nodeAt(t *api.Term, n int) *api.Term {
	if n == 0 {
		return t
	}
	n--
	for i := range t.Kids {
		size := tree.Count(t.Kids[i])
		if n < size {
			return nodeAt(&t.Kids[i], n)
		}
		n -= size
	}
	return nil
}

// grower of right trees: the same ones each time. Numbers 0 to 3 are of types, 4 to 7 of rows.
type grower struct{ *rand.Rand }

func newGrower() grower {
	return grower{rand.New(rand.NewPCG(8, 3))}
}

func among[T any](g grower, l ...T) T {
	return l[g.IntN(len(l))]
}

func (g grower) typ(depth int) api.Type {
	if depth > 0 {
		switch g.IntN(5) {
		case 0:
			return node(api.TFun, g.typ(depth-1), g.typ(depth-1))
		case 1:
			return node(api.TRec, g.row(depth-1))
		case 2:
			return node(api.TVnt, g.row(depth-1))
		}
	}
	return among(g, whole, truth, dyn, variable(g.IntN(4)))
}

func (g grower) row(depth int) api.Type {
	row := among(g, nilRow, dynRow, rowVariable(4+g.IntN(4)))
	for range g.IntN(5) {
		row = field(among(g, "a", "b", "ab", "z"), g.typ(depth-1), row)
	}
	return row
}

// grown: types and rows of many shapes.
func (g grower) grown(count int) []api.Type {
	var l []api.Type
	for i := range count {
		if i%2 == 0 {
			l = append(l, g.typ(4))
		} else {
			l = append(l, g.row(3))
		}
	}
	return l
}

// bytes: up to some more than so many, few of them odd.
func (g grower) bytes(count int) []byte {
	l := make([]byte, g.IntN(count+3))
	for i := range l {
		l[i] = among(g, byte(0), 0, 0, 2, 254, 1, 255)
	}
	return l
}

// shuffled: the same type, its fields of several names in another order.
func (g grower) shuffled(t api.Type) api.Type {
	var kids []api.Type
	for _, k := range t.Kids {
		kids = append(kids, g.shuffled(k))
	}
	t.Kids = kids
	if t.Op != api.RField || kids[1].Op != api.RField || kids[1].Name == t.Name || g.IntN(2) == 0 {
		return t
	}
	second := kids[1]
	return field(second.Name, second.Kids[0], g.shuffled(field(t.Name, t.Kids[0], second.Kids[1])))
}

// changed: another type, nearly the same, in one of its parts.
func (g grower) changed(t api.Type) api.Type {
	t = kinds.Canon(t)
	p := partAt(&t, g.IntN(kinds.Size(t)))
	if kinds.Row(*p) {
		switch {
		case p.Op == api.RField && g.IntN(2) == 0:
			*p = p.Kids[1]
		case p.Op == api.RField:
			p.Name = among(g, "a", "b", "ab", "z")
		default:
			*p = among(g, nilRow, dynRow, rowVariable(4), field("b", whole, *p))
		}
		return t
	}
	switch p.Op {
	case api.TRec:
		p.Op = api.TVnt
	case api.TVnt:
		p.Op = api.TRec
	default:
		*p = among(g, whole, truth, dyn, variable(0), variable(1))
	}
	return t
}

// wrongTrees: neither a right type nor a right row.
func wrongTrees() []api.Type {
	return []api.Type{
		{},
		{Op: 255, Name: "a", N: 7, Kids: []api.Type{{}, whole}},
		{Op: api.EVar, Name: "a"},
		{Op: api.TInt, N: 1},
		{Op: api.TDyn, Name: "a"},
		node(api.TDyn, whole),
		node(api.RDyn, nilRow),
		node(api.TFun, whole),
		node(api.TFun, whole, nilRow),
		node(api.TFun, whole, whole, whole),
		node(api.TRec),
		node(api.TRec, whole),
		node(api.TVnt, nilRow, nilRow),
		variable(-1),
		rowVariable(-1),
		field("", whole, nilRow),
		field("Int", whole, nilRow),
		field("a", whole, whole),
		field("a", nilRow, nilRow),
		{Op: api.RField, Name: "a"},
		{Op: api.RField, Name: "a", Kids: []api.Type{whole}},
		node(api.TFun, variable(1), node(api.TRec, rowVariable(1))),
		field("b", whole, field("a", node(api.TRec, whole), dynRow)),
	}
}

// wrongTerms: no right expressions.
func wrongTerms() []api.Term {
	x := api.Term{Op: api.EVar, Name: "x"}
	ann := func(of api.Type) api.Term {
		return api.Term{Op: api.EAnn, Has: true, Ann: of, Kids: []api.Term{x}}
	}
	return []api.Term{
		{},
		{Op: 255, Name: "a", Arg: "b", N: -7, Has: true, Ann: api.Type{Op: 255}, Kids: []api.Term{{}, x}},
		{Op: api.EVar, Name: "X"},
		{Op: api.EVar, Name: "x", Has: true, Ann: dyn},
		{Op: api.EInt, N: -1},
		{Op: api.EBool, N: 2},
		{Op: api.EArm, Name: "a", Arg: "x", Kids: []api.Term{x}},
		{Op: api.EElse, Arg: "x", Kids: []api.Term{x}},
		{Op: api.EFun, Arg: "x"},
		{Op: api.EFun, Arg: "x", Ann: dyn, Kids: []api.Term{x}},
		{Op: api.EAnn, Kids: []api.Term{x}},
		{Op: api.EApp, Kids: []api.Term{x, ann(nilRow)}},
		ann(api.Type{}),
		ann(dynRow),
		ann(variable(0)),
		ann(node(api.TRec, rowVariable(0))),
		ann(node(api.TFun, whole)),
	}
}
