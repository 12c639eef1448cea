package prec

import (
	"testing"

	"rowan/api"
	"rowan/kinds"
	"rowan/tree"
)

// deepest: more levels than the document's bound has.
const deepest = 1<<16 + 1

// towers: types that are nested deeply, by each Kid, around another one.
func towers(inner api.Type) map[string]api.Type {
	l := map[string]api.Type{}
	for what, f := range map[string]func(t api.Type) api.Type{
		"of what": func(t api.Type) api.Type { return node(api.TFun, t, whole) },
		"to what": func(t api.Type) api.Type { return node(api.TFun, whole, t) },
		"record":  func(t api.Type) api.Type { return node(api.TRec, field("a", t, nilRow)) },
		"variant": func(t api.Type) api.Type { return node(api.TVnt, field("b", whole, field("a", t, dynRow))) },
	} {
		t := inner
		for range deepest {
			t = f(t)
		}
		l[what] = t
	}
	return l
}

// innermost: the number of the part in which a tower ends.
func innermost(what string) int {
	if what == "of what" {
		return deepest
	}
	return 2 * deepest
}

// P8.1, R1: more levels than the document's bound has.
func TestDeepTypes(t *testing.T) {
	first, other, open := towers(whole), towers(truth), towers(dyn)
	for what, a := range first {
		for _, c := range []struct {
			b              api.Type
			together, less bool
		}{{a, true, true}, {other[what], false, false}, {open[what], true, true}, {dyn, true, true}} {
			if Consistent(a, c.b) != c.together || Consistent(c.b, a) != c.together || Less(a, c.b) != c.less {
				t.Errorf("a deep one, %s: %v, %v, %v", what, Consistent(a, c.b), Consistent(c.b, a), Less(a, c.b))
			}
		}
		if Less(open[what], a) {
			t.Errorf("Less of a deep one, %s", what)
		}
	}
}

// P8.1, R1
func TestWideRows(t *testing.T) {
	const many = 1 << 17
	names := []string{"b", "a", "c"}
	closed, open := nilRow, dynRow
	for i := range many {
		closed = field(names[i%3], whole, closed)
		open = field(names[i%2], dyn, open)
	}
	check(t, closed, closed, true, true)
	check(t, node(api.TRec, closed), node(api.TRec, dynRow), true, true)
	// open has more fields a and b than closed has.
	check(t, open, closed, false, false)
	check(t, open, dynRow, true, true)
	check(t, field("c", whole, closed), closed, false, false)
}

// P8.2, R1: each number of a deep type's parts, and of a deep term's.
func TestLoosenOfDeepTypes(t *testing.T) {
	open := towers(dyn)
	for what, a := range towers(whole) {
		size := kinds.Size(a)
		for i, want := range map[int]api.Type{0: dyn, size: a} {
			b := make([]byte, size+1)
			b[i] = 1
			if got := Loosen(a, b); !kinds.Same(got, want) {
				t.Errorf("Loosen of a deep one, %s, by its byte %d: %d parts", what, i, kinds.Size(got))
			}
		}
		b := make([]byte, size)
		b[innermost(what)] = 1
		if got := Loosen(a, b); !kinds.Same(got, open[what]) {
			t.Errorf("Loosen of a deep one, %s, by the innermost one: %d parts", what, kinds.Size(got))
		}
		term := api.Term{Op: api.EAnn, Has: true, Ann: a, Kids: []api.Term{{Op: api.ENil}}}
		if got := LoosenTerm(term, b); !kinds.Same(got.Ann, open[what]) || !Terms(term, got) || Terms(got, term) {
			t.Errorf("LoosenTerm of a deep one, %s", what)
		}
	}
}

// P8.2, R1
func TestDeepTerms(t *testing.T) {
	noted := func(of, inner api.Type) api.Term {
		out := api.Term{Op: api.EAnn, Has: true, Ann: inner, Kids: []api.Term{{Op: api.ENil}}}
		for range deepest {
			out = api.Term{Op: api.EFun, Arg: "x", Has: true, Ann: of, Kids: []api.Term{out}}
		}
		return out
	}
	a := noted(whole, truth)
	b := make([]byte, deepest+1)
	b[deepest] = 1
	got := LoosenTerm(a, b)
	if !tree.Same(got, noted(whole, dyn)) || !Terms(a, got) || Terms(got, a) || !Terms(a, a) {
		t.Error("a deep term's last annotation")
	}
	for i := range b {
		b[i] = 1
	}
	got = LoosenTerm(a, b)
	if !tree.Same(got, noted(dyn, dyn)) || !Terms(a, got) || Terms(got, a) {
		t.Error("all annotations of a deep term")
	}
}
