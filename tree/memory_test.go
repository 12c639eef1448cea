package tree

import (
	"slices"
	"testing"

	"rowan/api"
)

func spoilType(t *api.Type) {
	for i := range t.Kids {
		spoilType(&t.Kids[i])
	}
	all := t.Kids[:cap(t.Kids)]
	for i := range all {
		all[i] = api.Type{Op: api.EUpd, Name: "spoiled", N: -7, Kids: []api.Type{{}}}
	}
}

// spoil all that a term holds, and what lies behind its lists in their memory.
func spoil(t *api.Term) {
	spoilType(&t.Ann)
	for i := range t.Kids {
		spoil(&t.Kids[i])
	}
	all := t.Kids[:cap(t.Kids)]
	for i := range all {
		all[i] = api.Term{Op: api.TFun, Name: "spoiled", Arg: "spoiled", N: -7, Kids: []api.Term{{}}}
	}
}

func roomyType(t api.Type) api.Type {
	kids := make([]api.Type, 0, len(t.Kids)+3)
	for _, k := range t.Kids {
		kids = append(kids, roomyType(k))
	}
	t.Kids = kids
	return t
}

// roomy: the same term, each list of Kids with room behind it, that others could write to.
func roomy(t api.Term) api.Term {
	kids := make([]api.Term, 0, len(t.Kids)+3)
	for _, k := range t.Kids {
		kids = append(kids, roomy(k))
	}
	t.Kids = kids
	t.Ann = roomyType(t.Ann)
	return t
}

// P5.2, P5.3: a copy is alike, right or not; of a right one it is the same.
func TestCopy(t *testing.T) {
	for _, term := range append(append(grown(400), everyOp()), wrongTerms()...) {
		got := Copy(term)
		checkAlike(t, "Copy", got, term)
		checkAlike(t, "Copy of a roomy one", Copy(roomy(term)), term)
		if Same(got, term) != Right(term) || Right(got) != Right(term) {
			t.Errorf("the copy of %s isn't the same", dump(term))
		}
	}
	odd := api.Term{Op: 77, Name: "\xff", Arg: "1", N: -3, Ann: api.Type{Op: 9, Name: "?", N: -1, Kids: []api.Type{{}, field("b", api.Type{Op: 200}, field("a", whole, nilRow))}}, Kids: []api.Term{{}, {Has: true}}}
	checkAlike(t, "Copy", Copy(odd), odd)
	checkAlike(t, "Copy", Copy(node(api.EApp, odd, odd)), node(api.EApp, odd, odd))
}

// P5.2: the order of an annotation's fields stays as it is.
func TestCopyOfAnnotations(t *testing.T) {
	for _, of := range []api.Type{
		record(field("b", whole, field("a", truth, field("b", open, dynRow)))),
		{Op: api.TVar, N: 3}, function(api.Type{Op: api.TVar}, whole), nilRow,
	} {
		checkAlike(t, "Copy", Copy(ann(x, of)), ann(x, of))
		checkAlike(t, "Copy", Copy(api.Term{Op: api.ENil, Ann: of}), api.Term{Op: api.ENil, Ann: of})
	}
}

// P5.1, P5.2: what is changed in an answer isn't seen in what was handed in, nor
// the other way round.
func TestAnswersAreNewMemory(t *testing.T) {
	for _, term := range append(append(grown(100), everyOp()), wrongTerms()...) {
		for i := range slowNodes(term) {
			handed := roomy(term)
			got, _ := Node(handed, i)
			want := dump(got)
			spoil(&got)
			if dump(handed) != dump(term) {
				t.Fatalf("Node %d shares memory with what was handed in: %s", i, dump(term))
			}
			got, _ = Node(handed, i)
			spoil(&handed)
			if dump(got) != want {
				t.Fatalf("Node %d shares memory with what was handed in: %s", i, dump(term))
			}
		}
		handed := roomy(term)
		got := Copy(handed)
		spoil(&got)
		if dump(handed) != dump(term) {
			t.Fatalf("Copy shares memory with what was handed in: %s", dump(term))
		}
		got = Copy(handed)
		spoil(&handed)
		checkAlike(t, "Copy, when what was handed in is another one", got, term)
	}
}

// P5.2: no two parts of one answer share memory, even if what was handed in does.
func TestPartsOfAnAnswerShareNothing(t *testing.T) {
	shared := ann(named(api.EExt, "a", x, none), function(record(field("a", whole, nilRow)), whole))
	twice := node(api.EApp, shared, shared)
	second, _ := Node(node(api.EInj, twice), 1)
	for what, got := range map[string]api.Term{"Copy": Copy(twice), "Node": second} {
		spoil(&got.Kids[0])
		checkAlike(t, what, got.Kids[1], shared)
	}
}

// P5.1, P5.2: what is only asked about stays as it is; each answer is another list.
func TestQuestionsChangeNothing(t *testing.T) {
	for _, term := range append(append(grown(200), everyOp()), wrongTerms()...) {
		asked := roomy(term)
		Right(asked)
		Count(asked)
		Depth(asked)
		Node(asked, 1)
		Same(asked, asked)
		Value(asked)
		Static(asked)
		Copy(asked)
		first := Free(asked)
		want := slices.Clone(first)
		for i := range first {
			first[i] = "spoiled"
		}
		if got := Free(asked); !slices.Equal(got, want) {
			t.Errorf("Free has become %q; it was %q", got, want)
		}
		checkAlike(t, "asked", asked, term)
	}
}
