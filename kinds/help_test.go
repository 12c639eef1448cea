package kinds

import (
	"fmt"
	"math/rand/v2"
	"slices"
	"strings"
	"testing"

	"rowan/api"
)

var (
	nilRow = api.Type{Op: api.RNil}
	dynRow = api.Type{Op: api.RDyn}
)

func variable(n int) api.Type {
	return api.Type{Op: api.TVar, N: n}
}

func rowVariable(n int) api.Type {
	return api.Type{Op: api.RVar, N: n}
}

func field(name string, t, behind api.Type) api.Type {
	return api.Type{Op: api.RField, Name: name, Kids: []api.Type{t, behind}}
}

func node(op api.Op, kids ...api.Type) api.Type {
	return api.Type{Op: op, Kids: kids}
}

func clone(t api.Type) api.Type {
	var kids []api.Type
	for _, k := range t.Kids {
		kids = append(kids, clone(k))
	}
	t.Kids = kids
	return t
}

// dump of a tree, part by part, right or not: two are alike just if their dumps are.
func dump(t api.Type) string {
	var b strings.Builder
	fmt.Fprintf(&b, "(%d %q %d", t.Op, t.Name, t.N)
	for _, k := range t.Kids {
		b.WriteString(dump(k))
	}
	b.WriteString(")")
	return b.String()
}

func dumpFields(l []api.Field, tail api.Type) string {
	var b strings.Builder
	for _, f := range l {
		fmt.Fprintf(&b, "%q %s, ", f.Name, dump(f.Type))
	}
	return b.String() + dump(tail)
}

func checkAlike(t *testing.T, what string, got, want api.Type) {
	t.Helper()
	if g, w := dump(got), dump(want); g != w {
		t.Errorf("%s: %.200s; want %.200s", what, g, w)
	}
}

// slow is the canonical form, by exchanges of neighbours.
func slow(t api.Type) api.Type {
	t = clone(t)
	for i := range t.Kids {
		t.Kids[i] = slow(t.Kids[i])
	}
	if t.Op == api.RField && t.Kids[1].Op == api.RField && t.Kids[1].Name < t.Name {
		second := t.Kids[1]
		return field(second.Name, second.Kids[0], slow(field(t.Name, t.Kids[0], second.Kids[1])))
	}
	return t
}

// slowVars: the variables of a tree as it stands, by where they come first.
func slowVars(t api.Type) []int {
	var all []int
	if t.Op == api.TVar || t.Op == api.RVar {
		all = append(all, t.N)
	}
	for _, k := range t.Kids {
		all = append(all, slowVars(k)...)
	}
	var l []int
	for _, n := range all {
		if !slices.Contains(l, n) {
			l = append(l, n)
		}
	}
	return l
}

// ops: those that some part of a tree has.
func ops(t api.Type) map[api.Op]bool {
	l := map[api.Op]bool{t.Op: true}
	for _, k := range t.Kids {
		for op := range ops(k) {
			l[op] = true
		}
	}
	return l
}

func size(t api.Type) int {
	n := 1
	for _, k := range t.Kids {
		n += size(k)
	}
	return n
}

// grower of right trees: the same ones each time. Numbers 0 to 3 are of types, 4 to 7 of rows.
type grower struct{ *rand.Rand }

func newGrower() grower {
	return grower{rand.New(rand.NewPCG(3, 4))}
}

func (g grower) typ(depth int) api.Type {
	among := 7
	if depth <= 0 {
		among = 4
	}
	switch g.IntN(among) {
	case 0:
		return node(api.TInt)
	case 1:
		return node(api.TBool)
	case 2:
		return node(api.TDyn)
	case 3:
		return variable(g.IntN(4))
	case 4:
		return node(api.TFun, g.typ(depth-1), g.typ(depth-1))
	case 5:
		return node(api.TRec, g.row(depth-1))
	}
	return node(api.TVnt, g.row(depth-1))
}

func (g grower) row(depth int) api.Type {
	row := []api.Type{nilRow, dynRow, rowVariable(4 + g.IntN(4))}[g.IntN(3)]
	for range g.IntN(5) {
		row = field([]string{"a", "b", "ab", "a_1", "z"}[g.IntN(5)], g.typ(depth-1), row)
	}
	return row
}

// grown: types and rows of many shapes.
func grown(count int) []api.Type {
	g := newGrower()
	var l []api.Type
	for i := range count {
		if i%2 == 0 {
			l = append(l, g.typ(4))
		} else {
			l = append(l, g.row(4))
		}
	}
	return l
}

// shuffled: the same type, its fields of several names in another order.
func (g grower) shuffled(t api.Type) api.Type {
	t = clone(t)
	for i := range t.Kids {
		t.Kids[i] = g.shuffled(t.Kids[i])
	}
	if t.Op != api.RField || t.Kids[1].Op != api.RField || t.Kids[1].Name == t.Name || g.IntN(2) == 0 {
		return t
	}
	second := t.Kids[1]
	return field(second.Name, second.Kids[0], g.shuffled(field(t.Name, t.Kids[0], second.Kids[1])))
}

// wrongTrees: neither a right type nor a right row.
func wrongTrees() []api.Type {
	one := node(api.TInt)
	return []api.Type{
		{},
		{Op: 255, Name: "a", N: 7, Kids: []api.Type{{}, one}},
		{Op: api.EVar, Name: "a"},
		{Op: api.TInt, N: 1},
		{Op: api.TBool, Name: "a"},
		node(api.TDyn, one),
		node(api.TFun),
		node(api.TFun, one),
		node(api.TFun, one, one, one),
		node(api.TFun, one, nilRow),
		node(api.TRec),
		node(api.TRec, one),
		node(api.TRec, nilRow, nilRow),
		node(api.TVnt, one),
		node(api.TRec, api.Type{}),
		variable(-1),
		rowVariable(-1),
		field("", one, nilRow),
		field("Int", one, nilRow),
		field("a", one, one),
		field("a", nilRow, nilRow),
		node(api.RField),
		{Op: api.RField, Name: "a"},
		{Op: api.RField, Name: "a", Kids: []api.Type{one}},
		{Op: api.RField, Name: "a", Kids: []api.Type{one, nilRow, nilRow}},
		{Op: api.RField, Name: "a", N: 1, Kids: []api.Type{one, nilRow}},
		field("b", one, field("a", node(api.TRec, variable(1)), rowVariable(2))),
		node(api.TFun, variable(1), node(api.TRec, rowVariable(1))),
		field("a", variable(0), rowVariable(0)),
	}
}
