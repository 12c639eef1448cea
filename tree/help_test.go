package tree

import (
	"fmt"
	"math/rand/v2"
	"slices"
	"strings"
	"testing"

	"rowan/api"
	"rowan/kinds"
)

var (
	whole  = api.Type{Op: api.TInt}
	truth  = api.Type{Op: api.TBool}
	open   = api.Type{Op: api.TDyn}
	nilRow = api.Type{Op: api.RNil}
	dynRow = api.Type{Op: api.RDyn}

	one  = number(1)
	none = api.Term{Op: api.ENil}
	x    = name("x")
	y    = name("y")
)

func field(name string, t, behind api.Type) api.Type {
	return api.Type{Op: api.RField, Name: name, Kids: []api.Type{t, behind}}
}

func function(from, to api.Type) api.Type {
	return api.Type{Op: api.TFun, Kids: []api.Type{from, to}}
}

func record(row api.Type) api.Type {
	return api.Type{Op: api.TRec, Kids: []api.Type{row}}
}

func variant(row api.Type) api.Type {
	return api.Type{Op: api.TVnt, Kids: []api.Type{row}}
}

func name(s string) api.Term {
	return api.Term{Op: api.EVar, Name: s}
}

func number(n int64) api.Term {
	return api.Term{Op: api.EInt, N: n}
}

func boolean(n int64) api.Term {
	return api.Term{Op: api.EBool, N: n}
}

func fun(arg string, body api.Term) api.Term {
	return api.Term{Op: api.EFun, Arg: arg, Kids: []api.Term{body}}
}

func rec(name, arg string, body api.Term) api.Term {
	return api.Term{Op: api.ERec, Name: name, Arg: arg, Kids: []api.Term{body}}
}

func noted(t api.Term, ann api.Type) api.Term {
	t.Has, t.Ann = true, ann
	return t
}

func node(op api.Op, kids ...api.Term) api.Term {
	return api.Term{Op: op, Kids: kids}
}

// named: with a label, a sign, or what a let names.
func named(op api.Op, name string, kids ...api.Term) api.Term {
	return api.Term{Op: op, Name: name, Kids: kids}
}

func let(name string, what, where api.Term) api.Term {
	return named(api.ELet, name, what, where)
}

func branch(label, arg string, body api.Term) api.Term {
	return api.Term{Op: api.EArm, Name: label, Arg: arg, Kids: []api.Term{body}}
}

func otherwise(arg string, body api.Term) api.Term {
	return api.Term{Op: api.EElse, Arg: arg, Kids: []api.Term{body}}
}

func ann(t api.Term, of api.Type) api.Term {
	return noted(node(api.EAnn, t), of)
}

func cloneType(t api.Type) api.Type {
	var kids []api.Type
	for _, k := range t.Kids {
		kids = append(kids, cloneType(k))
	}
	t.Kids = kids
	return t
}

func clone(t api.Term) api.Term {
	var kids []api.Term
	for _, k := range t.Kids {
		kids = append(kids, clone(k))
	}
	t.Kids = kids
	t.Ann = cloneType(t.Ann)
	return t
}

func dumpType(t api.Type) string {
	var b strings.Builder
	fmt.Fprintf(&b, "(%d %q %d", t.Op, t.Name, t.N)
	for _, k := range t.Kids {
		b.WriteString(dumpType(k))
	}
	b.WriteString(")")
	return b.String()
}

// dump of a term, node by node, right or not: two are alike just if their dumps are.
func dump(t api.Term) string {
	var b strings.Builder
	fmt.Fprintf(&b, "[%d %q %q %d %v %s", t.Op, t.Name, t.Arg, t.N, t.Has, dumpType(t.Ann))
	for _, k := range t.Kids {
		b.WriteString(dump(k))
	}
	b.WriteString("]")
	return b.String()
}

func checkAlike(t *testing.T, what string, got, want api.Term) {
	t.Helper()
	if g, w := dump(got), dump(want); g != w {
		t.Errorf("%.200s: %.400s; want %.400s", what, g, w)
	}
}

// slowNodes: all nodes, a node ahead of its Kids, these in order.
func slowNodes(t api.Term) []api.Term {
	l := []api.Term{t}
	for _, k := range t.Kids {
		l = append(l, slowNodes(k)...)
	}
	return l
}

// nodeAt: the n-th node, to be changed where it is.
func nodeAt(t *api.Term, n int) *api.Term {
	if n == 0 {
		return t
	}
	n--
	for i := range t.Kids {
		size := len(slowNodes(t.Kids[i]))
		if n < size {
			return nodeAt(&t.Kids[i], n)
		}
		n -= size
	}
	return nil
}

func slowDepth(t api.Term) int {
	most := 0
	for _, k := range t.Kids {
		most = max(most, slowDepth(k))
	}
	return most + 1
}

// grower of right terms: the same ones each time.
type grower struct{ *rand.Rand }

func newGrower() grower {
	return grower{rand.New(rand.NewPCG(5, 1))}
}

func among[T any](g grower, l ...T) T {
	return l[g.IntN(len(l))]
}

func (g grower) word() string {
	return among(g, "a", "b", "c", "x")
}

func (g grower) typ(depth int) api.Type {
	if depth <= 0 {
		return among(g, whole, truth, open)
	}
	switch g.IntN(5) {
	case 0:
		return function(g.typ(depth-1), g.typ(depth-1))
	case 1:
		return record(g.row(depth - 1))
	case 2:
		return variant(g.row(depth - 1))
	}
	return g.typ(0)
}

func (g grower) row(depth int) api.Type {
	row := among(g, nilRow, dynRow)
	for range g.IntN(4) {
		row = field(g.word(), g.typ(depth-1), row)
	}
	return row
}

func (g grower) perhapsNoted(t api.Term) api.Term {
	if g.IntN(2) == 0 {
		return noted(t, g.typ(2))
	}
	return t
}

func (g grower) leaf() api.Term {
	return among(g, name(g.word()), name(g.word()), number(g.Int64N(3)), boolean(g.Int64N(2)), none)
}

func (g grower) term(depth int) api.Term {
	if depth <= 0 {
		return g.leaf()
	}
	e := func() api.Term { return g.term(depth - 1) }
	switch g.IntN(12) {
	case 0, 1:
		return g.perhapsNoted(fun(g.word(), e()))
	case 2:
		return g.perhapsNoted(rec(g.word(), g.word(), e()))
	case 3:
		return node(api.EApp, e(), e())
	case 4:
		return let(g.word(), e(), e())
	case 5:
		return node(api.EIf, e(), e(), e())
	case 6:
		return named(api.EBin, among(g, "+", "-", "*", "/", "%", "<", "=="), e(), e())
	case 7:
		return named(among(g, api.EExt, api.EExt, api.EUpd), g.word(), e(), e())
	case 8:
		return named(among(g, api.ESel, api.ECut, api.EInj, api.EEmb), g.word(), e())
	case 9:
		return g.choice(e)
	case 10:
		return ann(e(), g.typ(2))
	}
	return g.leaf()
}

func (g grower) choice(e func() api.Term) api.Term {
	t := node(api.ECase, e())
	for range g.IntN(3) {
		t.Kids = append(t.Kids, branch(g.word(), g.word(), e()))
	}
	if g.IntN(2) == 0 {
		t.Kids = append(t.Kids, otherwise(g.word(), e()))
	}
	return t
}

// grown: right terms of many shapes.
func grown(count int) []api.Term {
	g := newGrower()
	var l []api.Term
	for i := range count {
		l = append(l, g.term(1+i%5))
	}
	return l
}

// everyOp: a right term with each Op, with annotations and without.
func everyOp() api.Term {
	unsorted := record(field("b", function(whole, variant(nilRow)), field("a", truth, nilRow)))
	choice := node(api.ECase, named(api.EEmb, "b", named(api.EInj, "a", boolean(1))),
		branch("a", "y", noted(fun("z", node(api.EIf, boolean(0), name("z"), y)), unsorted)),
		branch("a", "x", named(api.ECut, "m", named(api.ESel, "l", x))),
		otherwise("y", named(api.EUpd, "k", number(7), named(api.EExt, "k", y, none))))
	body := let("g", fun("h", named(api.EBin, "<", name("h"), one)), node(api.EApp, name("g"), rec("h", "k", choice)))
	return noted(rec("f", "x", ann(body, function(whole, whole))), whole)
}

// wrongTerms: no right expressions.
func wrongTerms() []api.Term {
	variable := api.Type{Op: api.TVar}
	return []api.Term{
		{},
		{Op: 255, Name: "a", Arg: "b", N: -7, Has: true, Ann: api.Type{Op: 255, Kids: []api.Type{{}, whole}}, Kids: []api.Term{{}, one}},
		{Op: api.TInt},
		{Op: api.RField, Name: "a", Kids: []api.Term{one, none}},
		branch("a", "x", x),
		otherwise("x", x),
		name(""),
		name("A"),
		number(-1),
		boolean(2),
		boolean(-1),
		fun("", x),
		fun("let", x),
		noted(fun("x", x), nilRow),
		noted(fun("x", x), variable),
		noted(fun("x", x), record(field("a", variable, nilRow))),
		noted(fun("x", x), api.Type{}),
		{Op: api.EFun, Arg: "x", Ann: whole, Kids: []api.Term{x}},
		{Op: api.EFun, Arg: "x"},
		rec("", "x", x),
		rec("f", "", x),
		node(api.EApp, x),
		node(api.EApp, x, x, x),
		node(api.EApp, x, branch("a", "x", x)),
		noted(node(api.EApp, x, x), whole),
		let("", one, x),
		node(api.EIf, x, x),
		named(api.EBin, "=>", x, x),
		named(api.EBin, "", x, x),
		named(api.EBin, "a", x, x),
		node(api.ENil, one),
		named(api.EExt, "+", one, none),
		named(api.ESel, "a"),
		node(api.ECase),
		node(api.ECase, x, x),
		node(api.ECase, branch("a", "x", x)),
		node(api.ECase, otherwise("x", x)),
		node(api.ECase, x, otherwise("x", x), branch("a", "x", x)),
		node(api.ECase, x, otherwise("x", x), otherwise("x", x)),
		node(api.ECase, x, branch("a", "x", branch("a", "x", x))),
		node(api.ECase, x, branch("", "x", x)),
		node(api.ECase, x, named(api.EElse, "a", x)),
		node(api.EAnn, x),
		noted(named(api.EAnn, "a", x), whole),
		let("y", one, fun("x", node(api.EApp, x, name("if")))),
	}
}

// deepest: more levels than the document's bound has.
const deepest = 1<<16 + 1

// towers: terms that are nested deeply, by each Kid; the innermost one is x.
func towers() map[string]api.Term {
	l := map[string]api.Term{}
	for what, f := range map[string]func(t api.Term) api.Term{
		"fun":       func(t api.Term) api.Term { return fun("y", t) },
		"rec":       func(t api.Term) api.Term { return rec("f", "y", t) },
		"function":  func(t api.Term) api.Term { return node(api.EApp, t, y) },
		"argument":  func(t api.Term) api.Term { return node(api.EApp, y, t) },
		"what":      func(t api.Term) api.Term { return let("x", t, one) },
		"where":     func(t api.Term) api.Term { return let("y", one, t) },
		"value":     func(t api.Term) api.Term { return named(api.EExt, "a", t, none) },
		"record":    func(t api.Term) api.Term { return named(api.EExt, "a", one, t) },
		"injection": func(t api.Term) api.Term { return named(api.EInj, "a", t) },
		"arm":       func(t api.Term) api.Term { return node(api.ECase, y, branch("a", "z", t)) },
		"else":      func(t api.Term) api.Term { return node(api.ECase, y, otherwise("z", t)) },
		"note":      func(t api.Term) api.Term { return ann(t, whole) },
	} {
		t := x
		for range deepest {
			t = f(t)
		}
		l[what] = t
	}
	return l
}

// same: by what the chapter says, of right terms, slowly.
func same(a, b api.Term) bool {
	return dump(canonical(a)) == dump(canonical(b))
}

// canonical: its annotations are.
func canonical(t api.Term) api.Term {
	t = clone(t)
	if t.Has {
		t.Ann = kinds.Canon(t.Ann)
	}
	for i := range t.Kids {
		t.Kids[i] = canonical(t.Kids[i])
	}
	return t
}

// shuffled: the same type, its fields of several names in another order.
func (g grower) shuffled(t api.Type) api.Type {
	t = cloneType(t)
	for i := range t.Kids {
		t.Kids[i] = g.shuffled(t.Kids[i])
	}
	if t.Op != api.RField || t.Kids[1].Op != api.RField || t.Kids[1].Name == t.Name || g.IntN(2) == 0 {
		return t
	}
	second := t.Kids[1]
	return field(second.Name, second.Kids[0], g.shuffled(field(t.Name, t.Kids[0], second.Kids[1])))
}

// shuffledTerm: its annotations are.
func (g grower) shuffledTerm(t api.Term) api.Term {
	t = clone(t)
	if t.Has {
		t.Ann = g.shuffled(t.Ann)
	}
	for i := range t.Kids {
		t.Kids[i] = g.shuffledTerm(t.Kids[i])
	}
	return t
}

// slowFree: the free names, by what the chapter says of each Op.
func slowFree(t api.Term) []string {
	var l []string
	without := func(t api.Term, names ...string) {
		for _, n := range slowFree(t) {
			if !slices.Contains(names, n) {
				l = append(l, n)
			}
		}
	}
	switch t.Op {
	case api.EVar:
		l = append(l, t.Name)
	case api.EFun, api.EArm, api.EElse:
		without(t.Kids[0], t.Arg)
	case api.ERec:
		without(t.Kids[0], t.Name, t.Arg)
	case api.ELet:
		without(t.Kids[0])
		without(t.Kids[1], t.Name)
	default:
		for _, k := range t.Kids {
			without(k)
		}
	}
	slices.Sort(l)
	return slices.Compact(l)
}

// slowValue: the chapter's two words, one by the other.
func slowValue(t api.Term) bool {
	switch t.Op {
	case api.EFun, api.ERec, api.EInt, api.EBool, api.EVar:
		return true
	case api.EInj:
		return slowValue(t.Kids[0])
	}
	return slowLiteral(t)
}

func slowLiteral(t api.Term) bool {
	return t.Op == api.ENil || t.Op == api.EExt && slowValue(t.Kids[0]) && slowLiteral(t.Kids[1])
}
