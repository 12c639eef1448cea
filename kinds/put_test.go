package kinds

import (
	"fmt"
	"math"
	"testing"

	"rowan/api"
)

// P3.2
func TestPutOfATypeVariable(t *testing.T) {
	with := node(api.TRec, field("b", whole, field("a", truth, nilRow)))
	checkAlike(t, "Put", Put(variable(0), 0, with), with)
	checkAlike(t, "Put", Put(variable(1), 0, with), variable(1))
	checkAlike(t, "Put", Put(node(api.TFun, variable(2), node(api.TFun, variable(1), variable(2))), 2, with), node(api.TFun, with, node(api.TFun, variable(1), with)))
	checkAlike(t, "Put", Put(field("c", variable(math.MaxInt), rowVariable(0)), math.MaxInt, with), field("c", with, rowVariable(0)))
}

// P3.2
func TestPutOfARowVariable(t *testing.T) {
	with := field("b", whole, field("a", truth, rowVariable(1)))
	checkAlike(t, "Put", Put(rowVariable(0), 0, with), with)
	checkAlike(t, "Put", Put(rowVariable(1), 0, with), rowVariable(1))
	checkAlike(t, "Put", Put(field("c", whole, rowVariable(0)), 0, with), field("c", whole, with))
	checkAlike(t, "Put", Put(node(api.TFun, node(api.TRec, rowVariable(4)), node(api.TVnt, field("c", whole, rowVariable(4)))), 4, nilRow),
		node(api.TFun, node(api.TRec, nilRow), node(api.TVnt, field("c", whole, nilRow))))
}

// P3.2: neither what is put, nor that in which it is put, is sorted.
func TestPutLeavesAllElseAsItStands(t *testing.T) {
	with := node(api.TVnt, unsorted())
	checkAlike(t, "Put", Put(field("z", variable(0), unsorted()), 0, with), field("z", with, unsorted()))
	checkAlike(t, "Put", Put(unsorted(), 11, with), unsorted())
}

// P3.2: the variable within what is put stays.
func TestPutOfWhatHasTheVariable(t *testing.T) {
	with := node(api.TFun, variable(0), variable(0))
	checkAlike(t, "Put", Put(variable(0), 0, with), with)
	checkAlike(t, "Put", Put(node(api.TFun, variable(0), whole), 0, with), node(api.TFun, with, whole))
	row := field("a", whole, rowVariable(0))
	checkAlike(t, "Put", Put(field("b", whole, rowVariable(0)), 0, row), field("b", whole, row))
	checkAlike(t, "Put", Put(variable(0), 0, variable(0)), variable(0))
}

// P3.2: a type is put for a type's variable alone, a row for a row's.
func TestPutOfTheOtherSort(t *testing.T) {
	for _, with := range []api.Type{whole, open, variable(3), node(api.TRec, nilRow)} {
		tree := node(api.TFun, variable(1), node(api.TRec, rowVariable(0)))
		checkAlike(t, "Put of a type", Put(tree, 0, with), tree)
		checkAlike(t, "Put of a type", Put(rowVariable(0), 0, with), rowVariable(0))
	}
	for _, with := range []api.Type{nilRow, dynRow, rowVariable(3), field("a", whole, nilRow)} {
		tree := node(api.TFun, variable(0), node(api.TRec, rowVariable(1)))
		checkAlike(t, "Put of a row", Put(tree, 0, with), tree)
		checkAlike(t, "Put of a row", Put(variable(0), 0, with), variable(0))
	}
}

// P3.2: one number may then be of both sorts; what is told is told all the same.
func TestPutThatIsNotRight(t *testing.T) {
	tree := node(api.TFun, variable(0), node(api.TRec, rowVariable(1)))
	checkAlike(t, "Put", Put(tree, 0, variable(1)), node(api.TFun, variable(1), node(api.TRec, rowVariable(1))))
}

// P3.2: no part has such a number.
func TestPutOfANumberThatIsNotThere(t *testing.T) {
	for _, n := range []int{math.MinInt, -1, 1, math.MaxInt} {
		for _, tree := range []api.Type{whole, variable(0), rowVariable(0), field("a", variable(0), nilRow)} {
			checkAlike(t, "Put", Put(tree, n, truth), tree)
			checkAlike(t, "Put", Put(tree, n, nilRow), tree)
		}
	}
	checkAlike(t, "Put", Put(node(api.TFun, whole, nilRow), 0, truth), node(api.TFun, whole, nilRow))
}

// P3.2: if one of both isn't right, t as it is.
func TestPutOfWhatIsNotRight(t *testing.T) {
	tree := node(api.TFun, variable(0), node(api.TRec, rowVariable(1)))
	for _, wrong := range wrongTrees() {
		checkAlike(t, "Put of "+dump(wrong), Put(tree, 0, wrong), tree)
		checkAlike(t, "Put of "+dump(wrong), Put(tree, 1, wrong), tree)
		for n := -1; n < 3; n++ {
			checkAlike(t, "Put", Put(wrong, n, whole), wrong)
			checkAlike(t, "Put", Put(wrong, n, nilRow), wrong)
			checkAlike(t, "Put", Put(wrong, n, wrong), wrong)
		}
	}
	spoiled := node(api.TFun, variable(0), node(api.TRec, rowVariable(0)))
	checkAlike(t, "Put", Put(spoiled, 0, whole), spoiled)
}

// P3.2: against one that goes down the tree.
func TestPutOfGrownTypes(t *testing.T) {
	l := grown(60)
	for _, tree := range l {
		for _, with := range l {
			for n := range 8 {
				checkAlike(t, fmt.Sprint("Put for ", n), Put(tree, n, with), slowPut(tree, n, with))
			}
		}
	}
}

func slowPut(t api.Type, n int, with api.Type) api.Type {
	isRow := with.Op >= api.RNil
	if t.N == n && (t.Op == api.TVar && !isRow || t.Op == api.RVar && isRow) {
		return clone(with)
	}
	t = clone(t)
	for i := range t.Kids {
		t.Kids[i] = slowPut(t.Kids[i], n, with)
	}
	return t
}
