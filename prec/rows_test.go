package prec

import (
	"math"
	"testing"

	"rowan/api"
)

// check what Consistent and Less tell; of two that go together, that is told the other way round, too.
func check(t *testing.T, a, b api.Type, together, less bool) {
	t.Helper()
	if got := Consistent(a, b); got != together {
		t.Errorf("Consistent of %s and %s: %v", dump(a), dump(b), got)
	}
	if got := Consistent(b, a); got != together {
		t.Errorf("Consistent of %s and %s: %v", dump(b), dump(a), got)
	}
	if got := Less(a, b); got != less {
		t.Errorf("Less of %s and %s: %v", dump(a), dump(b), got)
	}
}

// P8.1: the examples of the chapter.
func TestTheExamples(t *testing.T) {
	check(t, kind(t, "{a:Int,b:Bool}"), kind(t, "{a:?|?}"), true, true)
	check(t, kind(t, "{|?}"), kind(t, "{a:Int}"), true, false)
}

// P8.1: of the simple types each goes with itself, and with ? alone.
func TestSimpleTypes(t *testing.T) {
	l := []api.Type{whole, truth, variable(0), variable(1), variable(math.MaxInt), kind(t, "Int->Int"), kind(t, "{}"), kind(t, "<>")}
	for i, a := range l {
		check(t, a, dyn, true, true)
		check(t, dyn, a, true, false)
		for j, b := range l {
			check(t, a, b, i == j, i == j)
		}
	}
	check(t, dyn, dyn, true, true)
}

// P8.1: of functions each part counts.
func TestFunctions(t *testing.T) {
	for _, c := range []struct {
		a, b           string
		together, less bool
	}{
		{"Int->Bool", "Int->Bool", true, true},
		{"Int->Bool", "Int->Int", false, false},
		{"Int->Bool", "Bool->Bool", false, false},
		{"Int->Bool", "Int->?", true, true},
		{"Int->Bool", "?->Bool", true, true},
		{"Int->Bool", "?->?", true, true},
		{"Int->?", "?->Bool", true, false},
		{"?->Int", "?->Bool", false, false},
		{"?->Int", "Int->?", true, false},
		{"(Int->?)->Int", "(?->Bool)->?", true, false},
		{"(Int->Bool)->Int", "(?->Bool)->?", true, true},
		{"Int->Int->Int", "Int->?", true, true},
		{"Int->Int->Int", "(Int->Int)->Int", false, false},
		{"Int->{|?}", "Int->{a:Int}", true, false},
		{"Int->Int", "{|?}", false, false},
	} {
		check(t, kind(t, c.a), kind(t, c.b), c.together, c.less)
	}
}

// rowCases are told of rows, of records and of variants.
var rowCases = []struct {
	a, b           string
	together, less bool
}{
	{"|{}", "|{}", true, true},
	{"|{}", "|{|?}", true, true},
	{"|{|?}", "|{|?}", true, true},
	{"|{a:Int}", "|{a:Int}", true, true},
	{"|{a:Int}", "|{a:Bool}", false, false},
	{"|{a:Int}", "|{b:Int}", false, false},
	{"|{a:Int}", "|{}", false, false},
	{"|{a:Int}", "|{|?}", true, true},
	{"|{a:Int}", "|{a:?}", true, true},
	{"|{a:Int}", "|{a:?|?}", true, true},
	{"|{a:Int|?}", "|{a:Int}", true, false},
	{"|{a:Int|?}", "|{}", false, false},
	{"|{a:Int|?}", "|{|?}", true, true},
	{"|{a:Int|?}", "|{b:Int|?}", true, false},
	{"|{a:Int|?}", "|{b:Int}", false, false},
	{"|{a:Int|?}", "|{a:Bool|?}", false, false},
	{"|{a:Int|?}", "|{a:Int,b:Int}", true, false},
	{"|{a:Int,b:Int}", "|{b:Int,a:Int}", true, true},
	{"|{a:Int,b:Int,c:Int}", "|{b:Int|?}", true, true},
	{"|{a:Int,c:Int}", "|{b:Int|?}", false, false},
	{"|{a:?,b:Int}", "|{a:Int,b:?}", true, false},
	// fields of one name, in their order
	{"|{a:Int,a:Bool}", "|{a:Int,a:Bool}", true, true},
	{"|{a:Int,a:Bool}", "|{a:Bool,a:Int}", false, false},
	{"|{a:Int,a:Bool}", "|{a:Int|?}", true, true},
	{"|{a:Int,a:Bool}", "|{a:Bool|?}", false, false},
	{"|{a:Int,a:Bool}", "|{a:Int}", false, false},
	{"|{a:Int,a:Bool}", "|{a:?,a:?}", true, true},
	{"|{a:Int,a:Bool,b:Int}", "|{a:Int,b:Int|?}", true, true},
	{"|{a:Int,b:Int,a:Bool}", "|{b:?,a:?,a:Bool}", true, true},
	{"|{a:Int,a:Int|?}", "|{a:Int,b:Int|?}", true, false},
	{"|{a:?,a:Bool}", "|{a:Int,a:?}", true, false},
	// names are in order byte by byte
	{"|{a:Int,a_:Int,a1:Int,aa:Int}", "|{aa:Int,a1:Int|?}", true, true},
}

// P8.1
func TestRows(t *testing.T) {
	for _, c := range rowCases {
		a, b := kind(t, c.a), kind(t, c.b)
		check(t, a, b, c.together, c.less)
		for _, op := range []api.Op{api.TRec, api.TVnt} {
			check(t, node(op, a), node(op, b), c.together, c.less)
			check(t, field("x", node(op, a), nilRow), field("x", node(op, b), nilRow), c.together, c.less)
			check(t, node(api.TFun, node(op, a), whole), node(api.TFun, node(op, b), whole), c.together, c.less)
		}
		check(t, node(api.TRec, a), node(api.TVnt, b), false, false)
		check(t, node(api.TRec, a), dyn, true, true)
		check(t, dyn, node(api.TVnt, a), true, false)
		check(t, node(api.TRec, a), whole, false, false)
	}
}

// P8.1: a tail that is a variable goes with itself, and with the row ?.
func TestTailsThatAreVariables(t *testing.T) {
	with := func(tail api.Type) api.Type { return field("a", whole, tail) }
	for _, n := range []int{0, 7, math.MaxInt} {
		v := rowVariable(n)
		check(t, v, v, true, true)
		check(t, with(v), with(v), true, true)
		check(t, v, rowVariable(1), false, false)
		check(t, with(v), with(rowVariable(1)), false, false)
		check(t, v, nilRow, false, false)
		check(t, nilRow, v, false, false)
		check(t, with(nilRow), with(v), false, false)
		check(t, v, dynRow, true, true)
		check(t, dynRow, v, true, false)
		check(t, with(v), dynRow, true, true)
		check(t, dynRow, with(v), true, false)
		check(t, with(v), v, false, false)
		check(t, v, with(v), false, false)
		check(t, with(dynRow), v, false, false)
		check(t, v, with(dynRow), false, false)
		check(t, with(v), with(dynRow), true, true)
		check(t, with(dynRow), with(v), true, false)
		check(t, with(v), field("b", whole, dynRow), false, false)
	}
}

// P8.1: a type and a row don't go together; a number may be of a type in one, and of a row in the other.
func TestTypesAndRows(t *testing.T) {
	types := []api.Type{whole, truth, dyn, variable(0), kind(t, "{|?}"), kind(t, "<>"), kind(t, "?->?")}
	rows := []api.Type{nilRow, dynRow, rowVariable(0), field("a", dyn, dynRow)}
	for _, a := range types {
		for _, b := range rows {
			check(t, a, b, false, false)
			check(t, b, a, false, false)
		}
	}
	check(t, node(api.TFun, variable(0), dyn), node(api.TFun, dyn, node(api.TRec, rowVariable(0))), true, false)
	check(t, node(api.TFun, variable(0), node(api.TRec, rowVariable(1))), node(api.TFun, variable(0), node(api.TRec, dynRow)), true, true)
}

// P8.1: what isn't right goes with nothing, not even with ?.
func TestWhatIsNotRight(t *testing.T) {
	for _, wrong := range wrongTrees() {
		for _, other := range []api.Type{dyn, dynRow, whole, nilRow, wrong, kind(t, "{|?}")} {
			check(t, wrong, other, false, false)
			check(t, other, wrong, false, false)
		}
		check(t, node(api.TRec, field("a", wrong, dynRow)), node(api.TRec, dynRow), false, false)
		check(t, node(api.TFun, dyn, wrong), dyn, false, false)
		check(t, dyn, node(api.TFun, wrong, dyn), false, false)
	}
}

// shortRows: all with at most three fields of few names and types.
func shortRows() []api.Type {
	l := []api.Type{nilRow, dynRow, rowVariable(5), rowVariable(6)}
	last := l
	for range 3 {
		var next []api.Type
		for _, behind := range last {
			for _, name := range []string{"a", "b"} {
				next = append(next, field(name, whole, behind), field(name, dyn, behind))
			}
		}
		l = append(l, next...)
		last = next
	}
	return l
}

// P8.1: each two short rows, against the chapter's words.
func TestShortRows(t *testing.T) {
	l := shortRows()
	for _, a := range l {
		for _, b := range l {
			check(t, a, b, slowConsistent(a, b), slowLess(a, b))
		}
	}
}

// P8.1: each two small types, against the chapter's words.
func TestSmallTypes(t *testing.T) {
	l := []api.Type{whole, truth, dyn, variable(0), variable(1)}
	for _, text := range []string{"{}", "{|?}", "{a:Int}", "{a:?}", "{a:Bool|?}", "<>", "<|?>", "<a:Int>"} {
		l = append(l, kind(t, text))
	}
	small := l
	for _, a := range small {
		for _, b := range small {
			l = append(l, node(api.TFun, a, b))
		}
	}
	for _, a := range l {
		for _, b := range l {
			check(t, a, b, slowConsistent(a, b), slowLess(a, b))
		}
	}
}

// P8.1: types that are nearly alike, against the chapter's words.
func TestGrownTypes(t *testing.T) {
	g := newGrower()
	count := map[[2]bool]int{}
	for _, tree := range g.grown(6000) {
		a, b := tree, tree
		for range g.IntN(3) {
			a, b = g.changed(a), slowLoosen(b, g.bytes(9))
		}
		for range g.IntN(2) {
			a, b = slowLoosen(a, g.bytes(9)), g.changed(b)
		}
		a, b = g.shuffled(a), g.shuffled(b)
		// A change may have put one number in the places of both sorts.
		if !isRight(a) || !isRight(b) {
			check(t, a, b, false, false)
			continue
		}
		together, less := slowConsistent(a, b), slowLess(a, b)
		check(t, a, b, together, less)
		count[[2]bool{together, less}]++
	}
	for _, of := range [][2]bool{{true, true}, {true, false}, {false, false}} {
		if count[of] < 400 {
			t.Errorf("only %d pairs of which %v is told", count[of], of)
		}
	}
}

// P8.1: the order of fields of several names plays no part.
func TestOrderOfFields(t *testing.T) {
	g := newGrower()
	l := g.grown(120)
	for _, a := range l {
		check(t, a, g.shuffled(a), true, true)
		for _, b := range l {
			check(t, g.shuffled(a), g.shuffled(b), Consistent(a, b), Less(a, b))
		}
	}
}
