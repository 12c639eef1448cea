package tree

import (
	"testing"

	"rowan/api"
)

func checkSame(t *testing.T, a, b api.Term, want bool) {
	t.Helper()
	if Same(a, b) != want || Same(b, a) != want {
		t.Errorf("Same of %.300s and %.300s: %v, %v", dump(a), dump(b), Same(a, b), Same(b, a))
	}
}

// P5.2: a term is the same as itself alone, among terms that differ in one part.
func TestSame(t *testing.T) {
	all := []api.Term{
		x, y, name("a"), one, number(0), number(2), boolean(0), boolean(1), none,
		fun("x", x), fun("y", x), fun("x", y), noted(fun("x", x), whole), noted(fun("x", x), truth), noted(fun("x", x), open),
		rec("f", "x", x), rec("g", "x", x), rec("f", "y", x), rec("x", "f", x), noted(rec("f", "x", x), whole),
		node(api.EApp, x, y), node(api.EApp, y, x), node(api.EApp, x, x),
		node(api.EApp, node(api.EApp, x, y), y), node(api.EApp, x, node(api.EApp, y, y)),
		let("x", x, y), let("x", y, x), let("y", x, y),
		node(api.EIf, x, x, y), node(api.EIf, x, y, x),
		named(api.EBin, "+", x, y), named(api.EBin, "-", x, y), named(api.EBin, "+", y, x),
		named(api.EExt, "x", x, y), named(api.EUpd, "x", x, y), named(api.EExt, "y", x, y),
		named(api.ESel, "x", x), named(api.ECut, "x", x), named(api.EInj, "x", x), named(api.EEmb, "x", x), named(api.EEmb, "y", x),
		node(api.ECase, x), node(api.ECase, x, branch("a", "x", x)), node(api.ECase, x, branch("b", "x", x)), node(api.ECase, x, branch("a", "y", x)),
		node(api.ECase, x, otherwise("x", x)), node(api.ECase, x, otherwise("y", x)),
		node(api.ECase, x, branch("a", "x", x), branch("b", "x", x)), node(api.ECase, x, branch("b", "x", x), branch("a", "x", x)),
		ann(x, whole), ann(x, truth), ann(x, record(nilRow)), ann(x, variant(nilRow)), ann(y, whole),
	}
	for i, a := range all {
		for j, b := range all {
			checkSame(t, a, b, i == j)
			checkSame(t, fun("z", node(api.EApp, a, one)), fun("z", node(api.EApp, b, one)), i == j)
		}
	}
}

// P5.2: the same nodes, one behind the other, but other Kids.
func TestSameOfOtherKids(t *testing.T) {
	b, last := branch("b", "x", x), otherwise("x", x)
	checkSame(t,
		node(api.ECase, x, branch("a", "x", node(api.ECase, x)), b),
		node(api.ECase, x, branch("a", "x", node(api.ECase, x, b))), false)
	checkSame(t,
		node(api.ECase, node(api.ECase, x, branch("a", "x", x)), last),
		node(api.ECase, node(api.ECase, x, branch("a", "x", x), last)), false)
	checkSame(t,
		node(api.ECase, node(api.ECase, x, b), b, last),
		node(api.ECase, node(api.ECase, x, b, b), last), false)
	checkSame(t,
		node(api.ECase, node(api.ECase, x, b, b), last),
		node(api.ECase, node(api.ECase, x, b, b, last)), false)
}

// P5.2: annotations are the same whatever the order of fields of several names.
func TestSameOfAnnotations(t *testing.T) {
	ab := field("a", whole, field("b", truth, field("a", open, nilRow)))
	ba := field("b", truth, field("a", whole, field("a", open, nilRow)))
	twisted := field("a", open, field("b", truth, field("a", whole, nilRow)))
	for _, of := range []func(row api.Type) api.Term{
		func(row api.Type) api.Term { return noted(fun("x", x), record(row)) },
		func(row api.Type) api.Term { return noted(rec("f", "x", x), function(whole, variant(row))) },
		func(row api.Type) api.Term {
			return let("x", ann(x, record(field("c", record(row), dynRow))), y)
		},
	} {
		checkSame(t, of(ab), of(ba), true)
		checkSame(t, of(ab), of(twisted), false)
		checkSame(t, of(ab), of(nilRow), false)
	}
}

// P5.2: nil and empty lists of Kids are alike.
func TestSameOfNilAndEmptyKids(t *testing.T) {
	empty := noted(fun("x", api.Term{Op: api.EVar, Name: "x", Ann: api.Type{Kids: []api.Type{}}, Kids: []api.Term{}}), api.Type{Op: api.TInt, Kids: make([]api.Type, 0, 2)})
	checkSame(t, empty, noted(fun("x", x), whole), true)
}

// P5.2: what isn't right isn't the same as anything.
func TestSameOfWhatIsNotRight(t *testing.T) {
	for _, a := range wrongTerms() {
		checkSame(t, a, a, false)
		checkSame(t, a, one, false)
		checkSame(t, fun("x", a), fun("x", a), false)
		for _, b := range wrongTerms() {
			checkSame(t, a, b, false)
		}
	}
	for _, a := range []api.Term{x, fun("x", x), let("x", one, x)} {
		b := a
		b.Ann = whole
		checkSame(t, a, b, false)
		checkSame(t, node(api.EApp, x, a), node(api.EApp, x, b), false)
	}
}

// P5.2: against the dumps, of all pairs; and of terms of which one node is another one.
func TestSameOfGrownTerms(t *testing.T) {
	g := newGrower()
	l := grown(150)
	for _, a := range l {
		checkSame(t, a, g.shuffledTerm(a), true)
		for _, b := range l {
			checkSame(t, a, b, same(a, b))
		}
	}
	for _, a := range append(l, everyOp()) {
		for i := range slowNodes(a) {
			b := clone(a)
			if p := nodeAt(&b, i); p.Op != api.EArm && p.Op != api.EElse {
				*p = named(api.ESel, "other", *p)
				checkSame(t, a, b, false)
			}
		}
	}
}

func checkStatic(t *testing.T, term api.Term, want bool) {
	t.Helper()
	if got := Static(term); got != want {
		t.Errorf("Static of %.300s: %v", dump(term), got)
	}
}

// P5.2: of any annotation, wherever it stands.
func TestStatic(t *testing.T) {
	for _, c := range []struct {
		of   api.Type
		want bool
	}{
		{whole, true}, {truth, true}, {open, false}, {record(nilRow), true}, {record(dynRow), false}, {variant(dynRow), false},
		{function(whole, truth), true}, {function(open, truth), false}, {function(truth, open), false},
		{record(field("a", whole, nilRow)), true}, {variant(field("a", open, nilRow)), false}, {record(field("a", whole, dynRow)), false},
	} {
		for _, term := range []api.Term{noted(fun("x", x), c.of), noted(rec("f", "x", x), c.of), ann(x, c.of)} {
			checkStatic(t, term, c.want)
			checkStatic(t, node(api.ECase, one, branch("a", "x", x), otherwise("y", let("z", ann(x, whole), term))), c.want)
			checkStatic(t, node(api.EApp, term, ann(one, whole)), c.want)
			checkStatic(t, node(api.EApp, term, ann(one, open)), false)
		}
	}
	checkStatic(t, x, true)
	checkStatic(t, everyOp(), true)
	for _, term := range wrongTerms() {
		checkStatic(t, term, false)
		checkStatic(t, fun("x", term), false)
	}
}

// P5.2
func TestStaticOfGrownTerms(t *testing.T) {
	for _, term := range grown(600) {
		want := true
		for _, p := range slowNodes(term) {
			want = want && !hasOpen(p.Ann)
		}
		checkStatic(t, term, want)
	}
}

func hasOpen(t api.Type) bool {
	there := t.Op == api.TDyn || t.Op == api.RDyn
	for _, k := range t.Kids {
		there = there || hasOpen(k)
	}
	return there
}
