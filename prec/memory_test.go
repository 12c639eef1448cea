package prec

import (
	"slices"
	"testing"

	"rowan/api"
	"rowan/tree"
)

func spoil(t *api.Type) {
	for i := range t.Kids {
		spoil(&t.Kids[i])
	}
	all := t.Kids[:cap(t.Kids)]
	for i := range all {
		all[i] = api.Type{Op: api.EUpd, Name: "spoiled", N: -7, Kids: []api.Type{{}}}
	}
}

// spoilTerm: all that a term holds, and what lies behind its lists in their memory.
func spoilTerm(t *api.Term) {
	spoil(&t.Ann)
	for i := range t.Kids {
		spoilTerm(&t.Kids[i])
	}
	all := t.Kids[:cap(t.Kids)]
	for i := range all {
		all[i] = api.Term{Op: api.TFun, Name: "spoiled", Arg: "spoiled", N: -7, Kids: []api.Term{{}}}
	}
}

// P8.2: what is changed in an answer isn't seen in what was handed in, nor the other way round.
func TestAnswersAreNewMemory(t *testing.T) {
	g := newGrower()
	for _, handed := range g.grown(300) {
		was, b := dump(handed), g.bytes(20)
		bytes := slices.Clone(b)
		got := Loosen(handed, b)
		want := dump(got)
		spoil(&got)
		if dump(handed) != was || !slices.Equal(b, bytes) {
			t.Fatalf("Loosen of %s by %v changes what is handed in: %s, %v", was, bytes, dump(handed), b)
		}
		got = Loosen(handed, b)
		spoil(&handed)
		clear(b)
		if dump(got) != want {
			t.Fatalf("Loosen of %s by %v shares memory with what is handed in", was, bytes)
		}
	}
	for _, text := range texts {
		handed, b := term(t, text), g.bytes(20)
		was := dumpTerm(handed)
		got := LoosenTerm(handed, b)
		want := dumpTerm(got)
		spoilTerm(&got)
		if dumpTerm(handed) != was {
			t.Fatalf("LoosenTerm of %s changes what is handed in: %s", text, dumpTerm(handed))
		}
		got = LoosenTerm(handed, b)
		spoilTerm(&handed)
		clear(b)
		if dumpTerm(got) != want {
			t.Fatalf("LoosenTerm of %s shares memory with what is handed in", text)
		}
	}
}

// P8.2: no two parts of one answer share memory, even if what was handed in does.
func TestPartsOfAnAnswerShareNothing(t *testing.T) {
	shared := node(api.TRec, field("a", whole, field("b", node(api.TFun, whole, truth), nilRow)))
	got := Loosen(node(api.TFun, shared, shared), []byte{1: 0, 4: 1})
	want := dump(got.Kids[1])
	spoil(&got.Kids[0])
	if dump(got.Kids[1]) != want {
		t.Errorf("Loosen: the second Kid has become %s; it was %s", dump(got.Kids[1]), want)
	}
	x := api.Term{Op: api.EAnn, Has: true, Ann: shared, Kids: []api.Term{{Op: api.EInj, Name: "a", Kids: []api.Term{{Op: api.ENil}}}}}
	twice := LoosenTerm(api.Term{Op: api.EApp, Kids: []api.Term{x, x}}, []byte{1})
	last := dumpTerm(twice.Kids[1])
	spoilTerm(&twice.Kids[0])
	if dumpTerm(twice.Kids[1]) != last {
		t.Errorf("LoosenTerm: the second Kid has become %s; it was %s", dumpTerm(twice.Kids[1]), last)
	}
}

// P8.1, P8.2: what is only asked about stays as it is.
func TestQuestionsChangeNothing(t *testing.T) {
	g := newGrower()
	for _, a := range append(g.grown(300), wrongTrees()...) {
		b := g.changed(a)
		first, second := dump(a), dump(b)
		Consistent(a, b)
		Less(a, b)
		Less(b, a)
		if dump(a) != first || dump(b) != second {
			t.Errorf("%s, %s have become %s, %s", first, second, dump(a), dump(b))
		}
	}
	for _, text := range texts {
		a := term(t, text)
		b := tree.Copy(a)
		Terms(a, b)
		checkAlikeTerms(t, "asked", a, term(t, text))
		checkAlikeTerms(t, "asked", b, term(t, text))
	}
}
