package prose

import (
	"fmt"
	"math/rand/v2"
	"strings"
	"testing"

	"rowan/api"
	"rowan/parse"
)

var (
	whole  = api.Type{Op: api.TInt}
	truth  = api.Type{Op: api.TBool}
	open   = api.Type{Op: api.TDyn}
	nilRow = api.Type{Op: api.RNil}
	dynRow = api.Type{Op: api.RDyn}

	one  = api.Term{Op: api.EInt, N: 1}
	none = api.Term{Op: api.ENil}
	x    = name("x")
	y    = name("y")
)

func field(name string, t, behind api.Type) api.Type {
	return api.Type{Op: api.RField, Name: name, Kids: []api.Type{t, behind}}
}

func typeOf(op api.Op, kids ...api.Type) api.Type {
	return api.Type{Op: op, Kids: kids}
}

func name(s string) api.Term {
	return api.Term{Op: api.EVar, Name: s}
}

func node(op api.Op, kids ...api.Term) api.Term {
	return api.Term{Op: op, Kids: kids}
}

// named: with a label, a sign, or what a let names.
func named(op api.Op, name string, kids ...api.Term) api.Term {
	return api.Term{Op: op, Name: name, Kids: kids}
}

// binder: what binds Arg, with a name or a label, if there is one.
func binder(op api.Op, name, arg string, body api.Term) api.Term {
	return api.Term{Op: op, Name: name, Arg: arg, Kids: []api.Term{body}}
}

func fun(arg string, body api.Term) api.Term {
	return binder(api.EFun, "", arg, body)
}

func noted(t api.Term, ann api.Type) api.Term {
	t.Has, t.Ann = true, ann
	return t
}

func cloneType(t api.Type) api.Type {
	var kids []api.Type
	for _, k := range t.Kids {
		kids = append(kids, cloneType(k))
	}
	t.Kids = kids
	return t
}

func clone(t api.Term) api.Term {
	var kids []api.Term
	for _, k := range t.Kids {
		kids = append(kids, clone(k))
	}
	t.Kids = kids
	t.Ann = cloneType(t.Ann)
	return t
}

func dumpType(t api.Type) string {
	var b strings.Builder
	fmt.Fprintf(&b, "(%d %q %d", t.Op, t.Name, t.N)
	for _, k := range t.Kids {
		b.WriteString(dumpType(k))
	}
	b.WriteString(")")
	return b.String()
}

// dump of a term, node by node, right or not: two are alike just if their dumps are.
func dump(t api.Term) string {
	var b strings.Builder
	fmt.Fprintf(&b, "[%d %q %q %d %v %s", t.Op, t.Name, t.Arg, t.N, t.Has, dumpType(t.Ann))
	for _, k := range t.Kids {
		b.WriteString(dump(k))
	}
	b.WriteString("]")
	return b.String()
}

func checkPrint(t *testing.T, term api.Term, want string) {
	t.Helper()
	if s, e := Print(term); s != want || e != api.OK {
		t.Errorf("Print of %.300s: %.300q, %v; want %.300q", dump(term), s, e, want)
	}
}

// term of a text that is an expression.
func term(t *testing.T, text string) api.Term {
	t.Helper()
	got, _, at, e := parse.Expr([]byte(text))
	if e != api.OK {
		t.Fatalf("Expr of %.300q: %d, %v", text, at, e)
	}
	return got
}

// checkTold: how the term of a text is told.
func checkTold(t *testing.T, text, want string) {
	t.Helper()
	checkPrint(t, term(t, text), want)
}

// annotations of many shapes; some of them aren't sorted.
func annotations() []api.Type {
	function := typeOf(api.TFun, open, truth)
	row := field("b", function, field("a", whole, field("b", truth, dynRow)))
	return []api.Type{
		whole, truth, open, function,
		typeOf(api.TFun, function, function),
		typeOf(api.TRec, nilRow), typeOf(api.TVnt, dynRow),
		typeOf(api.TRec, row), typeOf(api.TVnt, row),
		typeOf(api.TFun, typeOf(api.TVnt, field("a", typeOf(api.TRec, row), nilRow)), open),
	}
}

// shuffled: the same type, its fields of several names in another order.
func (g grower) shuffled(t api.Type) api.Type {
	t = cloneType(t)
	for i := range t.Kids {
		t.Kids[i] = g.shuffled(t.Kids[i])
	}
	if t.Op != api.RField || t.Kids[1].Op != api.RField || t.Kids[1].Name == t.Name || g.IntN(2) == 0 {
		return t
	}
	second := t.Kids[1]
	return field(second.Name, second.Kids[0], g.shuffled(field(t.Name, t.Kids[0], second.Kids[1])))
}

// shuffledTerm: its annotations are.
func (g grower) shuffledTerm(t api.Term) api.Term {
	t = clone(t)
	t.Ann = g.shuffled(t.Ann)
	for i := range t.Kids {
		t.Kids[i] = g.shuffledTerm(t.Kids[i])
	}
	return t
}

// grower of right terms: the same ones each time.
type grower struct{ *rand.Rand }

func newGrower() grower {
	return grower{rand.New(rand.NewPCG(7, 1))}
}

func among[T any](g grower, l ...T) T {
	return l[g.IntN(len(l))]
}

func (g grower) word() string {
	return among(g, "a", "b", "c", "x", "fun_1", "int", "a_")
}

func (g grower) perhapsNoted(t api.Term) api.Term {
	if g.IntN(2) == 0 {
		return noted(t, among(g, annotations()...))
	}
	return t
}

func (g grower) leaf() api.Term {
	return among(g, name(g.word()), name(g.word()), api.Term{Op: api.EInt, N: g.Int64()}, one, api.Term{Op: api.EBool, N: g.Int64N(2)}, none)
}

func (g grower) term(depth int) api.Term {
	if depth <= 0 {
		return g.leaf()
	}
	e := func() api.Term { return g.term(depth - 1) }
	switch g.IntN(13) {
	case 0:
		return g.perhapsNoted(fun(g.word(), e()))
	case 1:
		return g.perhapsNoted(binder(api.ERec, g.word(), g.word(), e()))
	case 2, 3:
		return node(api.EApp, e(), e())
	case 4:
		return named(api.ELet, g.word(), e(), e())
	case 5:
		return node(api.EIf, e(), e(), e())
	case 6, 7:
		return named(api.EBin, among(g, "+", "-", "*", "/", "%", "<", "=="), e(), e())
	case 8:
		return named(among(g, api.EExt, api.EExt, api.EUpd), g.word(), e(), e())
	case 9:
		return named(among(g, api.ESel, api.ECut, api.EInj, api.EEmb), g.word(), e())
	case 10:
		return g.choice(e)
	case 11:
		return noted(node(api.EAnn, e()), among(g, annotations()...))
	}
	return g.leaf()
}

func (g grower) choice(e func() api.Term) api.Term {
	t := node(api.ECase, e())
	for range g.IntN(3) {
		t.Kids = append(t.Kids, binder(api.EArm, g.word(), g.word(), e()))
	}
	if g.IntN(2) == 0 {
		t.Kids = append(t.Kids, binder(api.EElse, "", g.word(), e()))
	}
	return t
}

// grown: right terms of many shapes.
func grown(count int) []api.Term {
	g := newGrower()
	var l []api.Term
	for i := range count {
		l = append(l, g.term(i%6))
	}
	return l
}

// around: each Op around a term, by each of its Kids; of signs one of each rule.
func around(t api.Term) []api.Term {
	l := []api.Term{
		fun("x", t), noted(fun("x", t), whole), binder(api.ERec, "f", "x", t), noted(binder(api.ERec, "f", "x", t), open),
		node(api.EApp, t, y), node(api.EApp, y, t), named(api.ELet, "x", t, y), named(api.ELet, "x", y, t),
		node(api.EIf, t, y, y), node(api.EIf, y, t, y), node(api.EIf, y, y, t),
		named(api.EExt, "a", t, none), named(api.EExt, "a", t, y), named(api.EExt, "a", y, t), named(api.EUpd, "a", t, y), named(api.EUpd, "a", y, t),
		named(api.ESel, "a", t), named(api.ECut, "a", t), named(api.EInj, "a", t), named(api.EEmb, "a", t),
		node(api.ECase, t), node(api.ECase, t, binder(api.EArm, "a", "x", y)),
		node(api.ECase, y, binder(api.EArm, "a", "x", t)), node(api.ECase, y, binder(api.EElse, "", "x", t)),
		node(api.ECase, y, binder(api.EArm, "a", "x", t), binder(api.EArm, "a", "x", y), binder(api.EElse, "", "x", y)),
		noted(node(api.EAnn, t), whole),
	}
	for _, sign := range []string{"<", "+", "*"} {
		l = append(l, named(api.EBin, sign, t, y), named(api.EBin, sign, y, t))
	}
	return l
}

// nested: each Op in each place of each one, so many levels of them, around atoms.
func nested(levels int) []api.Term {
	l := []api.Term{x, one, none, {Op: api.EBool, N: 1}}
	for range levels {
		var next []api.Term
		for _, t := range l {
			next = append(next, around(t)...)
		}
		l = next
	}
	return l
}

// wrongTerms: no right expressions.
func wrongTerms() []api.Term {
	return []api.Term{
		{},
		{Op: 255, Name: "a", Arg: "b", N: -7, Has: true, Ann: api.Type{Op: 255, Kids: []api.Type{{}, whole}}, Kids: []api.Term{{}, one}},
		{Op: api.TInt},
		binder(api.EArm, "a", "x", x),
		binder(api.EElse, "", "x", x),
		name(""),
		name("X"),
		name("end"),
		name(strings.Repeat("x", 33)),
		{Op: api.EVar, Name: "x", N: 1},
		{Op: api.EInt, N: -1},
		{Op: api.EBool, N: 2},
		fun("", x),
		fun("let", x),
		noted(fun("x", x), nilRow),
		noted(fun("x", x), api.Type{}),
		noted(fun("x", x), api.Type{Op: api.TVar}),
		{Op: api.EFun, Arg: "x", Ann: whole, Kids: []api.Term{x}},
		{Op: api.EFun, Arg: "x"},
		binder(api.ERec, "", "x", x),
		binder(api.ERec, "f", "", x),
		node(api.EApp, x),
		node(api.EApp, x, x, x),
		node(api.EApp, x, binder(api.EArm, "a", "x", x)),
		noted(node(api.EApp, x, x), whole),
		named(api.ELet, "1", one, x),
		node(api.EIf, x, x),
		named(api.EBin, "=>", x, x),
		named(api.EBin, "", x, x),
		named(api.EBin, "+", x),
		node(api.ENil, one),
		named(api.EExt, "+", one, none),
		named(api.EExt, "a", one),
		named(api.EUpd, "", one, x),
		named(api.ESel, "a"),
		named(api.EInj, "a", x, x),
		node(api.ECase),
		node(api.ECase, x, x),
		node(api.ECase, binder(api.EArm, "a", "x", x)),
		node(api.ECase, x, binder(api.EElse, "", "x", x), binder(api.EArm, "a", "x", x)),
		node(api.ECase, x, binder(api.EElse, "", "x", x), binder(api.EElse, "", "x", x)),
		node(api.ECase, x, binder(api.EArm, "", "x", x)),
		node(api.EAnn, x),
		noted(node(api.EAnn, x), typeOf(api.TFun, whole)),
		noted(named(api.EAnn, "a", x), whole),
	}
}
