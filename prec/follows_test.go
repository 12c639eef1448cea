package prec

import (
	"testing"

	"rowan/api"
	"rowan/kinds"
)

// checkLess: a says at least as much as b, and so is consistent with it; b says
// as much as a only where they are the same.
func checkLess(t *testing.T, a, b api.Type) {
	t.Helper()
	if !Less(a, b) || !Consistent(a, b) || !Consistent(b, a) {
		t.Errorf("Less, Consistent of %s and %s: %v, %v, %v", dump(a), dump(b), Less(a, b), Consistent(a, b), Consistent(b, a))
	}
	if got := Less(b, a); got != kinds.Same(a, b) {
		t.Errorf("Less of %s and %s: %v", dump(b), dump(a), got)
	}
}

// P8.3: what is loosened, once or twice, says no more than what it was.
func TestWhatIsLoosenedSaysNoMore(t *testing.T) {
	g := newGrower()
	for _, tree := range append(g.grown(3000), shortRows()...) {
		once := Loosen(tree, g.bytes(kinds.Size(tree)))
		twice := Loosen(once, g.bytes(kinds.Size(once)))
		checkLess(t, g.shuffled(tree), tree)
		checkLess(t, g.shuffled(tree), once)
		checkLess(t, once, twice)
		checkLess(t, g.shuffled(tree), twice)
	}
}

// P8.3: each two of short rows, and a third one of which the second says at least as much.
func TestWhatSaysAtLeastAsMuchIsConsistent(t *testing.T) {
	l := shortRows()[:84]
	count := 0
	for _, a := range l {
		for _, b := range l {
			if !Less(a, b) {
				continue
			}
			count++
			checkLess(t, a, b)
			for _, c := range l {
				if Less(b, c) {
					checkLess(t, a, c)
				}
			}
		}
	}
	if count < 2*len(l) {
		t.Errorf("only %d pairs", count)
	}
}

// P8.3: what comes of one type goes together, whichever parts are loosened.
func TestWhatComesOfOneTypeGoesTogether(t *testing.T) {
	g := newGrower()
	for _, tree := range g.grown(3000) {
		a, b := Loosen(tree, g.bytes(kinds.Size(tree))), Loosen(tree, g.bytes(kinds.Size(tree)))
		if !Consistent(a, b) || !Consistent(b, a) {
			t.Errorf("Consistent of %s and %s, which are %s loosened", dump(a), dump(b), dump(tree))
		}
	}
}
