package tree

import (
	"slices"
	"testing"

	"rowan/api"
)

func checkFree(t *testing.T, term api.Term, want ...string) {
	t.Helper()
	if got := Free(term); !slices.Equal(got, want) {
		t.Errorf("Free of %.300s: %q; want %q", dump(term), got, want)
	}
}

// P5.2: the example of the chapter.
func TestTheExample(t *testing.T) {
	checkFree(t, fun("x", node(api.EApp, name("f"), x)), "f")
}

// P5.2: what binds a name, and where.
func TestFreeByBinders(t *testing.T) {
	all := node(api.EApp, node(api.EApp, node(api.EApp, name("f"), x), y), name("a"))
	checkFree(t, x, "x")
	checkFree(t, one)
	checkFree(t, none)
	checkFree(t, all, "a", "f", "x", "y")
	checkFree(t, fun("x", all), "a", "f", "y")
	checkFree(t, noted(fun("x", all), record(field("z", whole, nilRow))), "a", "f", "y")
	checkFree(t, rec("f", "x", all), "a", "y")
	checkFree(t, rec("x", "x", all), "a", "f", "y")
	checkFree(t, let("x", y, all), "a", "f", "y")
	checkFree(t, let("x", x, one), "x")
	checkFree(t, let("x", one, x))
	checkFree(t, node(api.ECase, all, branch("a", "x", all), otherwise("y", all)), "a", "f", "x", "y")
	checkFree(t, node(api.ECase, one, branch("a", "x", all)), "a", "f", "y")
	checkFree(t, node(api.ECase, one, otherwise("x", all)), "a", "f", "y")
	checkFree(t, node(api.ECase, one, branch("a", "x", y), branch("a", "y", x)), "x", "y")
	checkFree(t, node(api.ECase, x, branch("a", "x", one), otherwise("x", one)), "x")
}

// P5.2: labels and annotations have no names that are free, and bind none.
func TestFreeOfLabels(t *testing.T) {
	for _, op := range []api.Op{api.EExt, api.EUpd} {
		checkFree(t, named(op, "x", one, none))
		checkFree(t, named(op, "x", x, y), "x", "y")
	}
	for _, op := range []api.Op{api.ESel, api.ECut, api.EInj, api.EEmb} {
		checkFree(t, named(op, "x", one))
		checkFree(t, named(op, "x", x), "x")
	}
	checkFree(t, node(api.ECase, one, branch("x", "y", x)), "x")
	checkFree(t, ann(one, record(field("x", whole, nilRow))))
	checkFree(t, node(api.EIf, x, y, name("z")), "x", "y", "z")
	checkFree(t, named(api.EBin, "+", x, y), "x", "y")
}

// P5.2: a name that is bound twice is bound till the outer binder ends, and free behind it.
func TestFreeOfNamesThatAreBoundTwice(t *testing.T) {
	inner := fun("x", x)
	checkFree(t, fun("x", node(api.EApp, inner, x)))
	checkFree(t, node(api.EApp, fun("x", inner), x), "x")
	checkFree(t, node(api.EApp, inner, x), "x")
	checkFree(t, rec("x", "y", node(api.EApp, inner, x)))
	checkFree(t, rec("y", "x", node(api.EApp, rec("x", "x", y), node(api.EApp, x, y))))
	checkFree(t, let("x", inner, let("x", x, x)))
	checkFree(t, node(api.EApp, rec("x", "x", x), x), "x")
	checkFree(t, node(api.EApp, let("x", one, x), x), "x")
	checkFree(t, node(api.EApp, node(api.ECase, one, branch("a", "x", x), otherwise("y", y)), node(api.EApp, x, y)), "x", "y")
}

// P5.2: rising byte by byte, each once.
func TestFreeIsRising(t *testing.T) {
	term := none
	for _, s := range []string{"b", "a_", "a", "aa", "a1", "z", "ab", "a", "z", "a0", "b"} {
		term = named(api.EExt, "l", name(s), term)
	}
	checkFree(t, term, "a", "a0", "a1", "a_", "aa", "ab", "b", "z")
}

// P5.2
func TestFreeOfWhatIsNotRight(t *testing.T) {
	for _, term := range wrongTerms() {
		checkFree(t, term)
		checkFree(t, node(api.EApp, x, term))
	}
	checkFree(t, branch("a", "y", x))
	checkFree(t, otherwise("y", x))
}

// P5.2
func TestFreeOfGrownTerms(t *testing.T) {
	for _, term := range append(grown(1500), everyOp()) {
		checkFree(t, term, slowFree(term)...)
	}
}

func checkValue(t *testing.T, term api.Term, want bool) {
	t.Helper()
	if got := Value(term); got != want {
		t.Errorf("Value of %.300s: %v", dump(term), got)
	}
}

// P5.2
func TestValue(t *testing.T) {
	sum := named(api.EBin, "+", one, one)
	values := []api.Term{
		x, one, boolean(0), fun("x", sum), rec("f", "x", sum), noted(fun("x", sum), open), none,
		named(api.EExt, "a", one, none), named(api.EExt, "a", x, named(api.EExt, "a", fun("x", sum), none)),
	}
	others := []api.Term{
		sum, node(api.EApp, x, x), let("x", one, x), node(api.EIf, boolean(1), one, one), named(api.EUpd, "a", one, none),
		named(api.ESel, "a", x), named(api.ECut, "a", x), named(api.EEmb, "a", one), node(api.ECase, x), ann(one, whole), ann(x, open),
		named(api.EExt, "a", one, x), named(api.EExt, "a", sum, none), named(api.EExt, "a", one, one), named(api.EExt, "a", one, fun("x", x)),
		named(api.EExt, "a", one, named(api.EExt, "b", one, x)), named(api.EExt, "a", one, named(api.EExt, "b", sum, none)),
		named(api.EExt, "a", one, named(api.EUpd, "b", one, none)), named(api.EExt, "a", one, named(api.EInj, "b", none)),
		named(api.EExt, "a", one, ann(none, record(nilRow))),
	}
	for _, term := range values {
		checkValue(t, term, true)
		checkValue(t, named(api.EInj, "a", term), true)
		checkValue(t, named(api.EInj, "a", named(api.EInj, "a", term)), true)
		checkValue(t, named(api.EExt, "a", term, none), true)
		checkValue(t, named(api.EExt, "a", named(api.EInj, "b", term), named(api.EExt, "b", term, none)), true)
		checkValue(t, named(api.EEmb, "a", term), false)
	}
	for _, term := range others {
		checkValue(t, term, false)
		checkValue(t, named(api.EInj, "a", term), false)
		checkValue(t, named(api.EExt, "a", term, none), false)
		checkValue(t, named(api.EExt, "a", one, named(api.EExt, "a", term, none)), false)
		checkValue(t, named(api.EExt, "a", one, term), false)
		checkValue(t, fun("x", term), true)
	}
}

// P5.2: what isn't right is none, whatever its Op.
func TestValueOfWhatIsNotRight(t *testing.T) {
	for _, term := range wrongTerms() {
		checkValue(t, term, false)
		checkValue(t, fun("x", term), false)
		checkValue(t, named(api.EInj, "a", term), false)
		checkValue(t, named(api.EExt, "a", one, term), false)
		checkValue(t, named(api.EExt, "a", term, none), false)
	}
	checkValue(t, node(api.EInj, one), false)
	checkValue(t, named(api.EInj, "a"), false)
	checkValue(t, named(api.EExt, "a"), false)
	checkValue(t, named(api.EExt, "a", one), false)
}

// P5.2
func TestValueOfGrownTerms(t *testing.T) {
	g := newGrower()
	for _, term := range grown(1500) {
		checkValue(t, term, slowValue(term))
		literal := g.literal(4)
		checkValue(t, literal, slowValue(literal))
	}
}

// literal, or nearly one.
func (g grower) literal(depth int) api.Term {
	if depth <= 0 || g.IntN(8) == 0 {
		return among(g, none, none, none, one, fun("x", y), ann(one, whole))
	}
	if g.IntN(4) == 0 {
		return named(api.EInj, g.word(), g.literal(depth-1))
	}
	first := among(g, x, one, g.literal(depth-1))
	return named(api.EExt, g.word(), first, g.literal(depth-1))
}
