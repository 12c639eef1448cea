package tree

import (
	"math"
	"testing"

	"rowan/api"
)

// checkNodes: Count, Depth, and Node of all numbers, and of those that there aren't.
func checkNodes(t *testing.T, term api.Term) {
	t.Helper()
	l := slowNodes(term)
	if got := Count(term); got != len(l) {
		t.Errorf("Count of %.300s: %d; want %d", dump(term), got, len(l))
	}
	if got, want := Depth(term), slowDepth(term); got != want {
		t.Errorf("Depth of %.300s: %d; want %d", dump(term), got, want)
	}
	for i, want := range l {
		got, ok := Node(term, i)
		if !ok {
			t.Errorf("Node %d of %.300s isn't there", i, dump(term))
		}
		checkAlike(t, "Node", got, want)
	}
	for _, n := range []int{math.MinInt, -len(l), -1, len(l), len(l) + 1, math.MaxInt} {
		if got, ok := Node(term, n); ok || dump(got) != dump(api.Term{}) {
			t.Errorf("Node %d of %.300s: %s, %v", n, dump(term), dump(got), ok)
		}
	}
}

// P5.1
func TestNodesOfOrdinaryTerms(t *testing.T) {
	checkNodes(t, everyOp())
	for _, term := range grown(400) {
		checkNodes(t, term)
	}
}

// P5.1: of any term, right or not.
func TestNodesOfWhatIsNotRight(t *testing.T) {
	for _, term := range wrongTerms() {
		checkNodes(t, term)
		checkNodes(t, node(255, term, node(0, one, term, term), term))
	}
	odd := api.Term{Op: api.EVar, Name: "Ü", Arg: "1", N: math.MinInt64, Has: true, Ann: api.Type{Op: 9, N: -1, Kids: []api.Type{{}, {Op: 200}}}, Kids: []api.Term{{}, {N: 7}}}
	checkNodes(t, node(api.EInt, odd, odd))
}

// P5.1: numbers told by hand, and the ends of ways down that aren't the last Kids.
func TestNodesByHand(t *testing.T) {
	term := node(api.EIf, node(api.EApp, x, y), named(api.ESel, "a", named(api.EInj, "b", named(api.ECut, "c", one))), boolean(0))
	if Count(term) != 9 || Depth(term) != 5 {
		t.Errorf("%d, %d", Count(term), Depth(term))
	}
	for i, op := range []api.Op{api.EIf, api.EApp, api.EVar, api.EVar, api.ESel, api.EInj, api.ECut, api.EInt, api.EBool} {
		if got, ok := Node(term, i); !ok || got.Op != op {
			t.Errorf("Node %d: %s, %v", i, dump(got), ok)
		}
	}
	if second, _ := Node(term, 3); second.Name != "y" {
		t.Errorf("Node 3: %s", dump(second))
	}
	if Count(api.Term{}) != 1 || Depth(api.Term{}) != 1 {
		t.Errorf("of the zero term: %d, %d", Count(api.Term{}), Depth(api.Term{}))
	}
}

// P5.1: what is in an annotation is no node.
func TestNodesOfAnnotations(t *testing.T) {
	term := ann(noted(fun("x", x), function(function(whole, whole), whole)), record(field("a", whole, field("b", whole, nilRow))))
	if Count(term) != 3 || Depth(term) != 3 {
		t.Errorf("%d, %d", Count(term), Depth(term))
	}
	checkNodes(t, term)
}

// P5.3: there are as many nodes as are counted.
func TestNodesAreAsManyAsCounted(t *testing.T) {
	for _, term := range append(append(grown(300), everyOp()), wrongTerms()...) {
		count := 0
		for {
			if _, ok := Node(term, count); !ok {
				break
			}
			count++
		}
		if got := Count(term); got != count {
			t.Errorf("Count of %s: %d; there are %d", dump(term), got, count)
		}
	}
}

// P5.1, P5.2: terms that are nested much deeper than the document's bound.
func TestDeepTerms(t *testing.T) {
	isValue := map[string]bool{"fun": true, "rec": true, "injection": true, "value": true}
	for what, term := range towers() {
		each := 1
		if what == "arm" || what == "else" {
			each = 2
		}
		if got := Depth(term); got != each*deepest+1 {
			t.Errorf("Depth of %s: %d", what, got)
		}
		last := Count(term) - 1
		if _, ok := Node(term, last); !ok {
			t.Errorf("Node %d of %s", last, what)
		}
		if _, ok := Node(term, last+1); ok {
			t.Errorf("Node %d of %s", last+1, what)
		}
		if free := Free(term); len(free) == 0 || len(free) > 2 || free[0] != "x" {
			t.Errorf("Free of %s: %q", what, free)
		}
		if got := Value(term); got != isValue[what] {
			t.Errorf("Value of %s: %v", what, got)
		}
		if !Static(term) || !Same(Copy(term), term) || Same(term, term.Kids[len(term.Kids)-1]) {
			t.Errorf("Static, Same, Copy of %s", what)
		}
	}
}
