package prec

import (
	"strings"

	"rowan/api"
	"rowan/kinds"
)

// together says whether two types, or two rows, do. Both are right and canonical.
type together func(a, b *api.Type) bool

// holds: are both right types, or right rows, and do they go together so?
func holds(goes together, a, b api.Type) bool {
	right := kinds.Right(a) && kinds.Right(b) || kinds.Row(a) && kinds.Row(b)
	if !right {
		return false
	}
	a, b = kinds.Canon(a), kinds.Canon(b)
	return goes(&a, &b)
}

func consistent(a, b *api.Type) bool {
	if !isRow(a) {
		return a.Op == api.TDyn || b.Op == api.TDyn || alike(a, b, consistent)
	}
	left, ok := paired(a, b, consistent)
	openA, openB := left.tailA.Op == api.RDyn, left.tailB.Op == api.RDyn
	return ok && (openB || !left.ofA) && (openA || !left.ofB) && (openA || openB || left.sameTail())
}

func less(a, b *api.Type) bool {
	if !isRow(a) {
		return b.Op == api.TDyn || alike(a, b, less)
	}
	left, ok := paired(a, b, less)
	open := left.tailB.Op == api.RDyn
	return ok && !left.ofB && (open || !left.ofA) && (open || left.sameTail())
}

// alike: have two types one Op, and one number, and do their parts go together?
func alike(a, b *api.Type, goes together) bool {
	if a.Op != b.Op || a.N != b.N {
		return false
	}
	for i := range a.Kids {
		if !goes(&a.Kids[i], &b.Kids[i]) {
			return false
		}
	}
	return true
}

// isRow: one that is right.
func isRow(t *api.Type) bool {
	switch t.Op {
	case api.RNil, api.RDyn, api.RVar, api.RField:
		return true
	}
	return false
}

// rest of two rows: are there fields of them that are left over, and their tails.
type rest struct {
	ofA, ofB     bool
	tailA, tailB *api.Type
}

// sameTail: are both RNil, or RDyn, or the same variable?
func (r rest) sameTail() bool {
	return r.tailA.Op == r.tailB.Op && r.tailA.N == r.tailB.N
}

// paired: what two rows have beside their pairs, and whether the types of each
// pair go together. All fields are gone through, whether they do or not.
func paired(a, b *api.Type, goes together) (rest, bool) {
	var left rest
	ok := true
	for a.Op == api.RField || b.Op == api.RField {
		// The fields are sorted, so that the lower one of two names has no partner.
		order := compare(a, b)
		if order == 0 {
			ok = ok && goes(&a.Kids[0], &b.Kids[0])
		}
		left.ofA = left.ofA || order < 0
		left.ofB = left.ofB || order > 0
		if order <= 0 {
			a = &a.Kids[1]
		}
		if order >= 0 {
			b = &b.Kids[1]
		}
	}
	left.tailA, left.tailB = a, b
	return left, ok
}

// compare the first names of two rows; a row without fields comes last.
func compare(a, b *api.Type) int {
	switch {
	case b.Op != api.RField:
		return -1
	case a.Op != api.RField:
		return 1
	}
	return strings.Compare(a.Name, b.Name)
}
