package show

import (
	"fmt"
	"math/rand/v2"
	"slices"
	"strings"
	"testing"

	"rowan/api"
)

var (
	whole  = node(api.TInt)
	truth  = node(api.TBool)
	open   = node(api.TDyn)
	nilRow = node(api.RNil)
	dynRow = node(api.RDyn)
)

func node(op api.Op, kids ...api.Type) api.Type {
	return api.Type{Op: op, Kids: kids}
}

func variable(n int) api.Type {
	return api.Type{Op: api.TVar, N: n}
}

func rowVariable(n int) api.Type {
	return api.Type{Op: api.RVar, N: n}
}

func field(name string, t, behind api.Type) api.Type {
	return api.Type{Op: api.RField, Name: name, Kids: []api.Type{t, behind}}
}

func function(from, to api.Type) api.Type {
	return node(api.TFun, from, to)
}

func record(row api.Type) api.Type {
	return node(api.TRec, row)
}

func variant(row api.Type) api.Type {
	return node(api.TVnt, row)
}

func clone(t api.Type) api.Type {
	var kids []api.Type
	for _, k := range t.Kids {
		kids = append(kids, clone(k))
	}
	t.Kids = kids
	return t
}

// dump of a tree, part by part: two are alike just if their dumps are.
func dump(t api.Type) string {
	var b strings.Builder
	fmt.Fprintf(&b, "(%d %q %d", t.Op, t.Name, t.N)
	for _, k := range t.Kids {
		b.WriteString(dump(k))
	}
	b.WriteString(")")
	return b.String()
}

func checkAlike(t *testing.T, what string, got, want api.Type) {
	t.Helper()
	if g, w := dump(got), dump(want); g != w {
		t.Errorf("%.100s: %.200s; want %.200s", what, g, w)
	}
}

// sorted: the canonical form, by exchanges of neighbours.
func sorted(t api.Type) api.Type {
	t = clone(t)
	for i := range t.Kids {
		t.Kids[i] = sorted(t.Kids[i])
	}
	if t.Op == api.RField && t.Kids[1].Op == api.RField && t.Kids[1].Name < t.Name {
		second := t.Kids[1]
		return field(second.Name, second.Kids[0], sorted(field(t.Name, t.Kids[0], second.Kids[1])))
	}
	return t
}

// wordsOf: the tokens of a right type, as it stands, in the order of the chapter's words.
func wordsOf(t api.Type) []string {
	switch t.Op {
	case api.TInt:
		return []string{"Int"}
	case api.TBool:
		return []string{"Bool"}
	case api.TDyn:
		return []string{"?"}
	case api.TVar:
		return []string{"'", fmt.Sprint(t.N)}
	case api.TFun:
		from := wordsOf(t.Kids[0])
		if t.Kids[0].Op == api.TFun {
			from = slices.Concat([]string{"("}, from, []string{")"})
		}
		return slices.Concat(from, []string{"->"}, wordsOf(t.Kids[1]))
	case api.TRec:
		return slices.Concat([]string{"{"}, rowWords(t.Kids[0]), []string{"}"})
	}
	return slices.Concat([]string{"<"}, rowWords(t.Kids[0]), []string{">"})
}

func rowWords(row api.Type) []string {
	var l []string
	for ; row.Op == api.RField; row = row.Kids[1] {
		if len(l) > 0 {
			l = append(l, ",")
		}
		l = append(l, row.Name, ":")
		l = append(l, wordsOf(row.Kids[0])...)
	}
	switch row.Op {
	case api.RDyn:
		l = append(l, "|", "?")
	case api.RVar:
		l = append(l, "|", "'", fmt.Sprint(row.N))
	}
	return l
}

// grower of right types: the same ones each time. Numbers 0 to 3 are of types, 4 to 7 of rows.
type grower struct {
	*rand.Rand
	closed bool
}

func newGrower(closed bool) grower {
	return grower{rand.New(rand.NewPCG(3, 4)), closed}
}

func (g grower) typ(depth int) api.Type {
	among := 7
	if depth <= 0 {
		among = 4
	}
	switch g.IntN(among) {
	case 0:
		return truth
	case 1:
		return open
	case 2:
		if !g.closed {
			return variable(g.IntN(4))
		}
	case 4:
		return function(g.typ(depth-1), g.typ(depth-1))
	case 5:
		return record(g.row(depth - 1))
	case 6:
		return variant(g.row(depth - 1))
	}
	return whole
}

func (g grower) row(depth int) api.Type {
	row := []api.Type{nilRow, dynRow, rowVariable(4 + g.IntN(4))}[g.IntN(3)]
	if g.closed && row.Op == api.RVar {
		row = nilRow
	}
	for range g.IntN(5) {
		row = field([]string{"a", "b", "ab", "a_1", "z"}[g.IntN(5)], g.typ(depth-1), row)
	}
	return row
}

func grown(count int, closed bool) []api.Type {
	g := newGrower(closed)
	var l []api.Type
	for i := range count {
		l = append(l, g.typ(i%6))
	}
	return l
}

// shuffled: the same type, its fields of several names in another order.
func (g grower) shuffled(t api.Type) api.Type {
	t = clone(t)
	for i := range t.Kids {
		t.Kids[i] = g.shuffled(t.Kids[i])
	}
	if t.Op != api.RField || t.Kids[1].Op != api.RField || t.Kids[1].Name == t.Name || g.IntN(2) == 0 {
		return t
	}
	second := t.Kids[1]
	return field(second.Name, second.Kids[0], g.shuffled(field(t.Name, t.Kids[0], second.Kids[1])))
}

// bracketed: the tokens of a closed type, as it stands, with round brackets
// around types here and there.
func (g grower) bracketed(t api.Type) []string {
	l := g.spelled(t)
	if g.IntN(4) == 0 {
		return slices.Concat([]string{"("}, l, []string{")"})
	}
	return l
}

func (g grower) spelled(t api.Type) []string {
	switch t.Op {
	case api.TFun:
		from := g.bracketed(t.Kids[0])
		if t.Kids[0].Op == api.TFun {
			from = slices.Concat([]string{"("}, from, []string{")"})
		}
		return slices.Concat(from, []string{"->"}, g.bracketed(t.Kids[1]))
	case api.TRec:
		return slices.Concat([]string{"{"}, g.spelledRow(t.Kids[0]), []string{"}"})
	case api.TVnt:
		return slices.Concat([]string{"<"}, g.spelledRow(t.Kids[0]), []string{">"})
	}
	return wordsOf(t)
}

func (g grower) spelledRow(row api.Type) []string {
	var l []string
	for ; row.Op == api.RField; row = row.Kids[1] {
		if len(l) > 0 {
			l = append(l, ",")
		}
		l = slices.Concat(l, []string{row.Name, ":"}, g.bracketed(row.Kids[0]))
	}
	return append(l, rowWords(row)...)
}

// spread: the text of tokens, with blanks and remarks here and there.
func (g grower) spread(l []string) string {
	var b strings.Builder
	for _, s := range l {
		b.WriteString([]string{"", "", " ", "\t", "\r\n", "# -> {\n"}[g.IntN(6)])
		b.WriteString(s)
	}
	return b.String()
}

// notTypes: neither a right type, nor made of right parts throughout; rows among them.
func notTypes() []api.Type {
	return []api.Type{
		{},
		{Op: 255, Name: "a", N: 7, Kids: []api.Type{{}, whole}},
		{Op: api.EVar, Name: "a"},
		nilRow, dynRow, rowVariable(0),
		field("a", whole, nilRow),
		{Op: api.TInt, N: 1},
		{Op: api.TBool, Name: "a"},
		node(api.TDyn, whole),
		variable(-1),
		node(api.TVar, whole),
		node(api.TFun),
		node(api.TFun, whole),
		node(api.TFun, whole, whole, whole),
		function(whole, nilRow),
		function(dynRow, whole),
		function(whole, api.Type{}),
		node(api.TRec),
		record(whole),
		record(record(nilRow)),
		node(api.TRec, nilRow, nilRow),
		node(api.TVnt),
		variant(open),
		{Op: api.TVnt, N: 1, Kids: []api.Type{nilRow}},
		record(rowVariable(-1)),
		record(field("", whole, nilRow)),
		record(field("Int", whole, nilRow)),
		record(field("end", whole, nilRow)),
		record(field("a ", whole, nilRow)),
		record(field(strings.Repeat("a", 33), whole, nilRow)),
		record(field("a", whole, whole)),
		record(field("a", nilRow, nilRow)),
		record(node(api.RField)),
		record(api.Type{Op: api.RField, Name: "a", Kids: []api.Type{whole}}),
		record(field("b", whole, field("a", variant(api.Type{}), nilRow))),
		function(variable(1), record(rowVariable(1))),
		record(field("a", variable(0), rowVariable(0))),
	}
}
