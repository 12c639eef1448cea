package kinds

import (
	"math"
	"slices"
	"testing"

	"rowan/api"
)

var (
	truth = node(api.TBool)
	whole = node(api.TInt)
	open  = node(api.TDyn)
)

// unsorted: rows within rows, types within fields, fields of one name, in no order.
func unsorted() api.Type {
	inner := node(api.TRec, field("d", truth, field("c", variable(9), rowVariable(2))))
	return field("b", node(api.TFun, variable(7), variable(9)),
		field("a", inner,
			field("c", whole,
				field("b", open,
					field("a_1", variable(7),
						field("b", truth, rowVariable(5)))))))
}

// canonical: the same row, sorted throughout.
func canonical() api.Type {
	inner := node(api.TRec, field("c", variable(9), field("d", truth, rowVariable(2))))
	return field("a", inner,
		field("a_1", variable(7),
			field("b", node(api.TFun, variable(7), variable(9)),
				field("b", open,
					field("b", truth,
						field("c", whole, rowVariable(5)))))))
}

func checkFlat(t *testing.T, row api.Type, tail api.Type, fields ...api.Field) {
	t.Helper()
	l, end := Flat(row)
	if got, want := dumpFields(l, end), dumpFields(fields, tail); got != want {
		t.Errorf("Flat of %s: %s; want %s", dump(row), got, want)
	}
}

// P3.2: only the row's own fields are sorted, their types are told as they stand.
func TestFlat(t *testing.T) {
	for _, tail := range []api.Type{nilRow, dynRow, rowVariable(0), rowVariable(math.MaxInt)} {
		checkFlat(t, tail, tail)
		checkFlat(t, field("a", whole, tail), tail, api.Field{Name: "a", Type: whole})
		checkFlat(t, field("b", whole, field("a", truth, tail)), tail, api.Field{Name: "a", Type: truth}, api.Field{Name: "b", Type: whole})
	}
	inner := node(api.TRec, field("d", truth, field("c", variable(9), rowVariable(2))))
	checkFlat(t, unsorted(), rowVariable(5),
		api.Field{Name: "a", Type: inner},
		api.Field{Name: "a_1", Type: variable(7)},
		api.Field{Name: "b", Type: node(api.TFun, variable(7), variable(9))},
		api.Field{Name: "b", Type: open},
		api.Field{Name: "b", Type: truth},
		api.Field{Name: "c", Type: whole})
}

// P3.2: names are in order byte by byte.
func TestFlatByBytes(t *testing.T) {
	names := []string{"b", "a_", "a", "aa", "a1", "z", "ab", "a0"}
	var l []api.Field
	for i, name := range names {
		l = append(l, api.Field{Name: name, Type: variable(i)})
	}
	want := []api.Field{l[2], l[7], l[4], l[1], l[3], l[6], l[0], l[5]}
	checkFlat(t, Join(l, dynRow), dynRow, want...)
}

// P3.2: fields of one name stay as they stand, however many there are.
func TestFlatOfManyFieldsOfOneName(t *testing.T) {
	var l, want []api.Field
	for i := range 300 {
		l = append(l, api.Field{Name: []string{"c", "a", "b"}[i%3], Type: variable(i)})
	}
	for _, rest := range []int{1, 2, 0} {
		for i := rest; i < 300; i += 3 {
			want = append(want, l[i])
		}
	}
	checkFlat(t, Join(l, nilRow), nilRow, want...)
}

// P3.2: of what is no right row none, and the zero type.
func TestFlatOfWhatIsNoRow(t *testing.T) {
	checkFlat(t, whole, api.Type{})
	checkFlat(t, node(api.TRec, field("a", whole, nilRow)), api.Type{})
	checkFlat(t, variable(0), api.Type{})
	for _, tree := range wrongTrees() {
		checkFlat(t, tree, api.Type{})
		checkFlat(t, field("a", whole, tree), api.Type{})
	}
}

// P3.2
func TestCanon(t *testing.T) {
	checkAlike(t, "Canon of a row", Canon(unsorted()), canonical())
	checkAlike(t, "Canon of a canonical row", Canon(canonical()), canonical())
	for _, op := range []api.Op{api.TRec, api.TVnt} {
		checkAlike(t, "Canon", Canon(node(op, unsorted())), node(op, canonical()))
		deeper := node(api.TFun, node(op, unsorted()), node(op, field("b", node(op, unsorted()), field("a", whole, nilRow))))
		want := node(api.TFun, node(op, canonical()), node(op, field("a", whole, field("b", node(op, canonical()), nilRow))))
		checkAlike(t, "Canon", Canon(deeper), want)
	}
	for _, tree := range []api.Type{whole, truth, open, variable(0), nilRow, dynRow, rowVariable(3), node(api.TRec, nilRow), node(api.TFun, whole, truth)} {
		checkAlike(t, "Canon", Canon(tree), tree)
	}
	for _, tree := range grown(1000) {
		checkAlike(t, "Canon of "+dump(tree), Canon(tree), slow(tree))
	}
}

// P3.2: what each call tells of what is not right.
func TestWhatIsNotRight(t *testing.T) {
	for _, tree := range wrongTrees() {
		checkAlike(t, "Canon of "+dump(tree), Canon(tree), api.Type{})
		checkAlike(t, "Number of "+dump(tree), Number(tree), api.Type{})
		if Same(tree, tree) || Same(tree, whole) || Same(whole, tree) {
			t.Errorf("Same of %s", dump(tree))
		}
		if l := Vars(tree); len(l) > 0 {
			t.Errorf("Vars of %s: %v", dump(tree), l)
		}
		if Closed(tree) || Static(tree) {
			t.Errorf("Closed, Static of %s: %v, %v", dump(tree), Closed(tree), Static(tree))
		}
	}
}

func checkSame(t *testing.T, a, b api.Type, want bool) {
	t.Helper()
	if Same(a, b) != want || Same(b, a) != want {
		t.Errorf("Same of %s and %s: %v, %v", dump(a), dump(b), Same(a, b), Same(b, a))
	}
}

// P3.2
func TestSame(t *testing.T) {
	all := []api.Type{
		whole, truth, open, variable(0), variable(1), nilRow, dynRow, rowVariable(0), rowVariable(1),
		node(api.TFun, whole, truth), node(api.TFun, truth, whole), node(api.TFun, whole, whole),
		node(api.TRec, nilRow), node(api.TVnt, nilRow), node(api.TRec, dynRow), node(api.TVnt, dynRow),
		field("a", whole, nilRow), field("b", whole, nilRow), field("a", truth, nilRow), field("a", whole, dynRow),
		field("a", whole, field("a", whole, nilRow)), field("a", whole, field("a", truth, nilRow)), field("a", truth, field("a", whole, nilRow)),
		field("a", node(api.TRec, field("a", whole, nilRow)), nilRow), field("a", node(api.TFun, whole, node(api.TFun, whole, whole)), nilRow),
		node(api.TFun, node(api.TFun, whole, whole), whole), node(api.TFun, whole, node(api.TFun, whole, whole)),
	}
	for i, a := range all {
		for j, b := range all {
			checkSame(t, a, b, i == j)
		}
	}
}

// P3.2: the order of names plays no part, that of fields of one name does.
func TestSameOfFieldsInAnotherOrder(t *testing.T) {
	checkSame(t, unsorted(), canonical(), true)
	checkSame(t, node(api.TRec, unsorted()), node(api.TRec, canonical()), true)
	checkSame(t, node(api.TRec, unsorted()), node(api.TVnt, canonical()), false)
	checkSame(t, node(api.TRec, unsorted()), canonical(), false)
	one := field("b", whole, field("a", open, field("b", truth, nilRow)))
	checkSame(t, one, field("a", open, field("b", whole, field("b", truth, nilRow))), true)
	checkSame(t, one, field("b", truth, field("a", open, field("b", whole, nilRow))), false)
	checkSame(t, field("x", one, nilRow), field("x", one, nilRow), false)
}

// P3.2: nil and empty lists of Kids are alike.
func TestSameOfNilAndEmptyKids(t *testing.T) {
	empty := node(api.TFun, node(api.TInt, []api.Type{}...), node(api.TRec, node(api.RNil, make([]api.Type, 0, 3)...)))
	checkSame(t, empty, node(api.TFun, whole, node(api.TRec, nilRow)), true)
	checkAlike(t, "Canon", Canon(empty), node(api.TFun, whole, node(api.TRec, nilRow)))
}

// P3.2: variables that are numbered in another way aren't the same, and one
// number may be of a type in one, of a row in the other.
func TestSameOfOtherNumbers(t *testing.T) {
	checkSame(t, node(api.TFun, variable(0), variable(1)), node(api.TFun, variable(1), variable(0)), false)
	checkSame(t, node(api.TFun, variable(0), variable(0)), node(api.TFun, variable(0), variable(1)), false)
	checkSame(t, node(api.TRec, rowVariable(0)), variable(0), false)
	checkSame(t, field("a", whole, rowVariable(0)), field("a", variable(0), nilRow), false)
}

// P3.2: against the slow canonical form.
func TestSameOfGrownTypes(t *testing.T) {
	g := newGrower()
	l := grown(150)
	for _, tree := range l {
		checkSame(t, tree, g.shuffled(tree), true)
	}
	for _, a := range l {
		for _, b := range l {
			checkSame(t, a, b, dump(slow(a)) == dump(slow(b)))
		}
	}
}

func checkVars(t *testing.T, tree api.Type, want ...int) {
	t.Helper()
	if got := Vars(tree); !slices.Equal(got, want) {
		t.Errorf("Vars of %s: %v; want %v", dump(tree), got, want)
	}
	if got := Closed(tree); got != (len(want) == 0) {
		t.Errorf("Closed of %s: %v", dump(tree), got)
	}
}

// P3.2: each once, in the order of the canonical form.
func TestVars(t *testing.T) {
	checkVars(t, whole)
	checkVars(t, open)
	checkVars(t, dynRow)
	checkVars(t, node(api.TRec, field("a", whole, nilRow)))
	checkVars(t, variable(0), 0)
	checkVars(t, variable(math.MaxInt), math.MaxInt)
	checkVars(t, rowVariable(4), 4)
	checkVars(t, node(api.TFun, variable(5), node(api.TFun, variable(2), variable(5))), 5, 2)
	checkVars(t, node(api.TFun, node(api.TVnt, rowVariable(3)), variable(1)), 3, 1)
	checkVars(t, field("b", variable(1), field("a", variable(2), rowVariable(0))), 2, 1, 0)
	checkVars(t, field("b", variable(1), field("b", variable(2), field("a", variable(2), nilRow))), 2, 1)
	checkVars(t, unsorted(), 9, 2, 7, 5)
	checkVars(t, canonical(), 9, 2, 7, 5)
	for _, tree := range grown(1000) {
		checkVars(t, tree, slowVars(slow(tree))...)
	}
}

// P3.2
func TestStatic(t *testing.T) {
	for _, c := range []struct {
		tree api.Type
		want bool
	}{
		{whole, true}, {truth, true}, {open, false}, {variable(0), true}, {nilRow, true}, {dynRow, false}, {rowVariable(0), true},
		{node(api.TFun, whole, open), false}, {node(api.TFun, open, whole), false}, {node(api.TFun, whole, variable(1)), true},
		{node(api.TRec, dynRow), false}, {node(api.TVnt, field("a", open, nilRow)), false}, {field("a", whole, dynRow), false}, {field("a", whole, nilRow), true},
	} {
		if got := Static(c.tree); got != c.want {
			t.Errorf("Static of %s: %v", dump(c.tree), got)
		}
	}
	for _, tree := range grown(1000) {
		there := ops(tree)
		if got := Static(tree); got == (there[api.TDyn] || there[api.RDyn]) {
			t.Errorf("Static of %s: %v", dump(tree), got)
		}
	}
}

// P3.2: canonical, and numbers by the order of the canonical form.
func TestNumber(t *testing.T) {
	inner := node(api.TRec, field("c", variable(0), field("d", truth, rowVariable(1))))
	want := field("a", inner,
		field("a_1", variable(2),
			field("b", node(api.TFun, variable(2), variable(0)),
				field("b", open,
					field("b", truth,
						field("c", whole, rowVariable(3)))))))
	checkAlike(t, "Number", Number(unsorted()), want)
	checkAlike(t, "Number", Number(node(api.TVnt, canonical())), node(api.TVnt, want))
	checkAlike(t, "Number", Number(node(api.TFun, variable(1), variable(0))), node(api.TFun, variable(0), variable(1)))
	checkAlike(t, "Number", Number(node(api.TFun, variable(math.MaxInt), node(api.TRec, rowVariable(0)))), node(api.TFun, variable(0), node(api.TRec, rowVariable(1))))
	for _, tree := range []api.Type{whole, open, nilRow, dynRow, variable(0), rowVariable(0), node(api.TRec, field("a", whole, nilRow))} {
		checkAlike(t, "Number", Number(tree), tree)
	}
	for _, tree := range grown(1000) {
		checkAlike(t, "Number of "+dump(tree), Number(tree), slowNumber(tree))
	}
}

func slowNumber(t api.Type) api.Type {
	t = slow(t)
	return renumbered(t, slowVars(t))
}

// renumbered: each N is where it stands in the list.
func renumbered(t api.Type, l []int) api.Type {
	t = clone(t)
	if t.Op == api.TVar || t.Op == api.RVar {
		t.N = slices.Index(l, t.N)
	}
	for i := range t.Kids {
		t.Kids[i] = renumbered(t.Kids[i], l)
	}
	return t
}

// P3.4: a canonical form is the same as what it is of, and its own canonical form.
func TestCanonicalFormsAreTheSame(t *testing.T) {
	for _, tree := range append(grown(1000), unsorted()) {
		c := Canon(tree)
		checkSame(t, c, tree, true)
		checkAlike(t, "Canon of a canonical form", Canon(c), c)
		if Right(c) != Right(tree) || Row(c) != Row(tree) || Size(c) != Size(tree) {
			t.Errorf("the canonical form of %s: %s", dump(tree), dump(c))
		}
	}
}

// P3.4: numbered types that are the same are alike.
func TestNumberedTypesThatAreTheSameAreAlike(t *testing.T) {
	g := newGrower()
	l := grown(200)
	for _, tree := range l {
		checkAlike(t, "Number of "+dump(tree), Number(g.shuffled(tree)), Number(tree))
	}
	for _, a := range l {
		for _, b := range l {
			x, y := Number(a), Number(b)
			if Same(x, y) != (dump(x) == dump(y)) {
				t.Errorf("Same of %s and %s: %v", dump(x), dump(y), Same(x, y))
			}
		}
	}
}

// P3.2: the example of the chapter.
func TestTheExample(t *testing.T) {
	row := Join([]api.Field{{Name: "b", Type: Int()}, {Name: "a", Type: Bool()}}, nilRow)
	checkFlat(t, row, nilRow, api.Field{Name: "a", Type: truth}, api.Field{Name: "b", Type: whole})
	checkAlike(t, "Canon", Canon(row), field("a", truth, field("b", whole, nilRow)))
}
