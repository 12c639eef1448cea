package show

import (
	"math"
	"strings"
	"testing"

	"rowan/api"
)

func checkPrint(t *testing.T, tree api.Type, want string) {
	t.Helper()
	if s, e := Print(tree); s != want || e != api.OK {
		t.Errorf("Print of %.200s: %.200q, %v; want %.200q", dump(tree), s, e, want)
	}
}

// P4.1
func TestPrintOfAtoms(t *testing.T) {
	checkPrint(t, whole, "Int")
	checkPrint(t, truth, "Bool")
	checkPrint(t, open, "?")
}

// P4.1
func TestPrintOfVariables(t *testing.T) {
	checkPrint(t, variable(0), "'0")
	checkPrint(t, variable(10), "'10")
	checkPrint(t, variable(math.MaxInt), "'9223372036854775807")
	checkPrint(t, record(rowVariable(0)), "{|'0}")
	checkPrint(t, variant(rowVariable(math.MaxInt)), "<|'9223372036854775807>")
	checkPrint(t, function(variable(3), function(variable(1), record(rowVariable(2)))), "'3->'1->{|'2}")
}

// P4.1: only what a function is of stands in brackets, if it is a function's type.
func TestPrintOfFunctions(t *testing.T) {
	one := function(whole, truth)
	checkPrint(t, one, "Int->Bool")
	checkPrint(t, function(one, open), "(Int->Bool)->?")
	checkPrint(t, function(open, one), "?->Int->Bool")
	checkPrint(t, function(one, one), "(Int->Bool)->Int->Bool")
	checkPrint(t, function(function(one, one), one), "((Int->Bool)->Int->Bool)->Int->Bool")
	checkPrint(t, function(function(one, whole), whole), "((Int->Bool)->Int)->Int")
	checkPrint(t, function(function(open, one), whole), "(?->Int->Bool)->Int")
	checkPrint(t, function(variable(0), variable(0)), "'0->'0")
	checkPrint(t, function(record(field("a", one, nilRow)), variant(nilRow)), "{a:Int->Bool}-><>")
	checkPrint(t, function(variant(field("a", function(one, whole), nilRow)), record(nilRow)), "<a:(Int->Bool)->Int>->{}")
}

// P4.1
func TestPrintOfRows(t *testing.T) {
	for _, c := range []struct {
		row  api.Type
		text string
	}{
		{nilRow, ""},
		{dynRow, "|?"},
		{rowVariable(7), "|'7"},
		{field("a", whole, nilRow), "a:Int"},
		{field("a", open, dynRow), "a:?|?"},
		{field("l", variable(12), rowVariable(3)), "l:'12|'3"},
		{field("a", whole, field("b", truth, nilRow)), "a:Int,b:Bool"},
		{field("a", whole, field("b", function(truth, whole), field("c", record(nilRow), rowVariable(0)))), "a:Int,b:Bool->Int,c:{}|'0"},
		{field("a", record(field("b", variant(dynRow), dynRow)), nilRow), "a:{b:<|?>|?}"},
		{field(strings.Repeat("z", 32), whole, nilRow), strings.Repeat("z", 32) + ":Int"},
	} {
		checkPrint(t, record(c.row), "{"+c.text+"}")
		checkPrint(t, variant(c.row), "<"+c.text+">")
		checkPrint(t, function(record(c.row), variant(c.row)), "{"+c.text+"}-><"+c.text+">")
	}
}

// P4.1: the text is that of the canonical form; fields of one name stay as they stand.
func TestPrintOfWhatIsNotSorted(t *testing.T) {
	row := field("b", whole, field("a", open, field("b", truth, field("a_1", variable(9), field("a", whole, rowVariable(2))))))
	checkPrint(t, record(row), "{a:?,a:Int,a_1:'9,b:Int,b:Bool|'2}")
	inner := record(field("d", truth, field("c", whole, nilRow)))
	checkPrint(t, variant(field("b", function(inner, inner), field("a", inner, nilRow))), "<a:{c:Int,d:Bool},b:{c:Int,d:Bool}->{c:Int,d:Bool}>")
	checkPrint(t, function(record(field("z", whole, field("b", function(open, truth), field("a", whole, dynRow)))), open), "{a:Int,b:?->Bool,z:Int|?}->?")
}

// P4.1
func TestPrintOfWhatIsNoType(t *testing.T) {
	check := func(tree api.Type) {
		t.Helper()
		if s, e := Print(tree); s != "" || e != api.Form {
			t.Errorf("Print of %.200s: %.200q, %v", dump(tree), s, e)
		}
	}
	for _, tree := range notTypes() {
		check(tree)
		check(function(tree, whole))
		check(function(whole, tree))
		check(record(field("a", tree, nilRow)))
		if tree.Op != api.RNil && tree.Op != api.RDyn && tree.Op != api.RVar && tree.Op != api.RField {
			check(record(tree))
			check(variant(field("a", whole, tree)))
		}
	}
	check(record(field("b", variable(1), field("a", record(rowVariable(1)), nilRow))))
}

// P4.1: against the chapter's words, on types of many shapes.
func TestPrintOfGrownTypes(t *testing.T) {
	for _, tree := range grown(3000, false) {
		checkPrint(t, tree, strings.Join(wordsOf(sorted(tree)), ""))
	}
}

// P4.1, R4
func TestPrintChangesNothing(t *testing.T) {
	for _, tree := range grown(500, false) {
		kept := clone(tree)
		Print(tree)
		checkAlike(t, "a type that was printed", tree, kept)
	}
}

// P4.1: as many levels as the document's bound has, and more.
func TestPrintOfDeepTypes(t *testing.T) {
	const deep = 1 << 17
	left, right, rec := whole, whole, whole
	for range deep {
		left = function(left, truth)
		right = function(truth, right)
		rec = record(field("a", rec, nilRow))
	}
	checkLong(t, left, strings.Repeat("(", deep-1)+"Int->Bool"+strings.Repeat(")->Bool", deep-1))
	checkLong(t, right, strings.Repeat("Bool->", deep)+"Int")
	checkLong(t, rec, strings.Repeat("{a:", deep)+"Int"+strings.Repeat("}", deep))
}

// P4.1
func TestPrintOfALongRow(t *testing.T) {
	const long = 1 << 17
	row := dynRow
	for range long {
		row = field("b", whole, row)
	}
	checkLong(t, record(field("c", open, field("a", truth, row))), "{a:Bool"+strings.Repeat(",b:Int", long)+",c:?|?}")
}

func checkLong(t *testing.T, tree api.Type, want string) {
	t.Helper()
	if s, e := Print(tree); e != api.OK || s != want {
		t.Errorf("Print: %.40q .. of %d bytes, %v; want %.40q .. of %d bytes", s, len(s), e, want, len(want))
	}
}
