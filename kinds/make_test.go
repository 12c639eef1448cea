package kinds

import (
	"math"
	"testing"

	"rowan/api"
)

// P3.3
func TestTypesWithoutParts(t *testing.T) {
	checkAlike(t, "Int", Int(), api.Type{Op: api.TInt})
	checkAlike(t, "Bool", Bool(), api.Type{Op: api.TBool})
	checkAlike(t, "Dyn", Dyn(), api.Type{Op: api.TDyn})
}

// P3.3
func TestTypesOfRightParts(t *testing.T) {
	checkAlike(t, "Fun", Fun(Int(), Fun(Bool(), Dyn())), node(api.TFun, whole, node(api.TFun, truth, open)))
	checkAlike(t, "Rec", Rec(unsorted()), node(api.TRec, unsorted()))
	checkAlike(t, "Vnt", Vnt(unsorted()), node(api.TVnt, unsorted()))
	for _, made := range []api.Type{Int(), Bool(), Dyn(), Fun(Int(), Rec(unsorted())), Rec(dynRow), Vnt(unsorted())} {
		checkRight(t, made, true, false)
	}
}

// P3.3: parts are taken as they are, right or not.
func TestTypesOfWhateverParts(t *testing.T) {
	for _, tree := range append(wrongTrees(), nilRow, whole, unsorted(), node(api.TRec, unsorted())) {
		checkAlike(t, "Fun", Fun(tree, whole), node(api.TFun, tree, whole))
		checkAlike(t, "Fun", Fun(whole, tree), node(api.TFun, whole, tree))
		checkAlike(t, "Fun", Fun(tree, tree), node(api.TFun, tree, tree))
		checkAlike(t, "Rec", Rec(tree), node(api.TRec, tree))
		checkAlike(t, "Vnt", Vnt(tree), node(api.TVnt, tree))
	}
}

// P3.3: in the order in which the fields are handed in.
func TestJoin(t *testing.T) {
	for _, tail := range []api.Type{nilRow, dynRow, rowVariable(0), unsorted()} {
		checkAlike(t, "Join", Join(nil, tail), tail)
		checkAlike(t, "Join", Join([]api.Field{}, tail), tail)
		checkAlike(t, "Join", Join([]api.Field{{Name: "b", Type: whole}}, tail), field("b", whole, tail))
		l := []api.Field{{Name: "b", Type: whole}, {Name: "a", Type: node(api.TRec, unsorted())}, {Name: "b", Type: open}}
		checkAlike(t, "Join", Join(l, tail), field("b", whole, field("a", node(api.TRec, unsorted()), field("b", open, tail))))
		checkRight(t, Join(l, tail), false, true)
	}
}

// P3.3: names, types and tails are taken as they are, right or not.
func TestJoinOfWhateverParts(t *testing.T) {
	for _, tree := range append(wrongTrees(), whole, nilRow) {
		for _, name := range []string{"", "a", "A", "end", "a\xff"} {
			l := []api.Field{{Name: name, Type: tree}, {Name: "b", Type: whole}}
			checkAlike(t, "Join", Join(l, tree), field(name, tree, field("b", whole, tree)))
		}
		checkAlike(t, "Join", Join(nil, tree), tree)
	}
	odd := api.Type{Op: 77, Name: "b", N: math.MinInt}
	checkAlike(t, "Join", Join([]api.Field{{Name: "a", Type: odd}}, odd), field("a", odd, odd))
}

// P3.2, P3.3: Join of what Flat tells is the canonical form, if the types within are.
func TestJoinOfWhatFlatTells(t *testing.T) {
	for i, tree := range grown(400) {
		if i%2 == 1 {
			l, tail := Flat(tree)
			checkSame(t, Join(l, tail), tree, true)
			c, end := Flat(Canon(tree))
			checkAlike(t, "Join", Join(c, end), Canon(tree))
		}
	}
}
