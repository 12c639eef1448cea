package kinds

import (
	"testing"

	"rowan/api"
)

// spoil all that a tree holds, and what lies behind its lists in their memory.
func spoil(t *api.Type) {
	for i := range t.Kids {
		spoil(&t.Kids[i])
	}
	all := t.Kids[:cap(t.Kids)]
	for i := range all {
		all[i] = api.Type{Op: api.EUpd, Name: "spoiled", N: -7, Kids: []api.Type{{}}}
	}
}

// roomy: the same tree, each list of Kids with room behind it, that others could write to.
func roomy(t api.Type) api.Type {
	kids := make([]api.Type, 0, len(t.Kids)+3)
	for _, k := range t.Kids {
		kids = append(kids, roomy(k))
	}
	t.Kids = kids
	return t
}

// calls: all that tell types, each of two trees.
func calls() map[string]func(a, b api.Type) []api.Type {
	one := func(f func(t api.Type) api.Type) func(a, b api.Type) []api.Type {
		return func(a, b api.Type) []api.Type { return []api.Type{f(a), f(b)} }
	}
	return map[string]func(a, b api.Type) []api.Type{
		"Canon":  one(Canon),
		"Number": one(Number),
		"Rec":    one(Rec),
		"Vnt":    one(Vnt),
		"Fun":    func(a, b api.Type) []api.Type { return []api.Type{Fun(a, b), Fun(a, a)} },
		"Put": func(a, b api.Type) []api.Type {
			return []api.Type{Put(a, 0, b), Put(b, 4, a), Put(a, 9, b), Put(a, -1, b)}
		},
		"Join": func(a, b api.Type) []api.Type {
			l := []api.Field{{Name: "b", Type: a}, {Name: "a", Type: b}, {Name: "b", Type: a}}
			return []api.Type{Join(l, b), Join(nil, a)}
		},
		"Flat": func(a, b api.Type) []api.Type {
			l, tail := Flat(a)
			m, end := Flat(b)
			out := []api.Type{tail, end}
			for _, f := range append(l, m...) {
				out = append(out, f.Type)
			}
			return out
		},
	}
}

// P3.1 to P3.3: what is changed in an answer is not seen in what was handed in,
// nor the other way round, nor in another part of the answer.
func TestAnswersAreNewMemory(t *testing.T) {
	l := append(grown(60), unsorted(), node(api.TRec, unsorted()), node(api.TFun, variable(0), variable(0)))
	l = append(l, wrongTrees()...)
	for what, f := range calls() {
		for i := range l {
			a, b := roomy(l[i]), roomy(l[(i+1)%len(l)])
			wantA, wantB := dump(a), dump(b)
			var want []string
			for _, told := range f(a, b) {
				want = append(want, dump(told))
			}
			first, second := f(a, b), f(a, b)
			for j := range first {
				spoil(&first[j])
				checkDumps(t, what, first[j+1:], want[j+1:])
			}
			if dump(a) != wantA || dump(b) != wantB {
				t.Fatalf("%s shares memory with what was handed in: %s, %s", what, wantA, wantB)
			}
			checkDumps(t, what, second, want)
			spoil(&a)
			spoil(&b)
			checkDumps(t, what, second, want)
		}
	}
}

func checkDumps(t *testing.T, what string, l []api.Type, want []string) {
	t.Helper()
	for i := range l {
		if got := dump(l[i]); got != want[i] {
			t.Fatalf("%s: answer %d has become %s; it was %s", what, i, got, want[i])
		}
	}
}

// P3.2, P3.3: no two parts of one answer share memory, even if what was handed in does.
func TestPartsOfAnAnswerShareNothing(t *testing.T) {
	shared := node(api.TRec, field("b", node(api.TFun, variable(0), open), field("a", whole, rowVariable(4))))
	twice := node(api.TFun, shared, shared)
	for what, made := range map[string]api.Type{
		"Canon":  Canon(twice),
		"Number": Number(twice),
		"Fun":    Fun(shared, shared),
		"Rec":    Rec(twice).Kids[0],
		"Vnt":    Vnt(twice).Kids[0],
		"Put":    Put(node(api.TFun, variable(1), variable(1)), 1, shared),
		"Put 9":  Put(twice, 9, whole),
		"Join":   Join([]api.Field{{Name: "a", Type: shared}}, shared),
	} {
		want := dump(made.Kids[1])
		spoil(&made.Kids[0])
		if got := dump(made.Kids[1]); got != want {
			t.Errorf("%s: the second Kid has become %s; it was %s", what, got, want)
		}
	}
	l, _ := Flat(field("b", shared, field("a", shared, nilRow)))
	spoil(&l[0].Type)
	if got := dump(l[1].Type); got != dump(shared) {
		t.Errorf("Flat: the second field has become %s", got)
	}
}

// P3.1, P3.2: what is only asked about stays as it is.
func TestQuestionsChangeNothing(t *testing.T) {
	for _, tree := range append(append(grown(100), unsorted()), wrongTrees()...) {
		asked := roomy(tree)
		want := dump(asked)
		Right(asked)
		Row(asked)
		Size(asked)
		Same(asked, asked)
		Closed(asked)
		Static(asked)
		if l := Vars(asked); len(l) > 0 {
			l[0]++
		}
		if dump(asked) != want {
			t.Errorf("%s has become %s", want, dump(asked))
		}
	}
}

// P3.2: lists that are handed in stay as they are, and so do those that are told.
func TestListsOfFields(t *testing.T) {
	l := []api.Field{{Name: "b", Type: node(api.TRec, nilRow)}, {Name: "a", Type: whole}}
	row := Join(l, nilRow)
	if l[0].Name != "b" || l[1].Name != "a" {
		t.Errorf("Join has changed its fields: %v", l)
	}
	spoil(&l[0].Type)
	l[1] = api.Field{Name: "c", Type: truth}
	checkAlike(t, "Join", row, field("b", node(api.TRec, nilRow), field("a", whole, nilRow)))
	told, _ := Flat(row)
	told[0] = api.Field{}
	checkFlat(t, row, nilRow, api.Field{Name: "a", Type: whole}, api.Field{Name: "b", Type: node(api.TRec, nilRow)})
}
