package show

import (
	"strings"
	"testing"

	"rowan/api"
	"rowan/kinds"
)

// P4.3: the text of a closed type is parsed as its canonical form.
func TestWhatIsPrintedIsParsed(t *testing.T) {
	for _, tree := range grown(3000, true) {
		text, e := Print(tree)
		if e != api.OK {
			t.Errorf("Print of %s: %v", dump(tree), e)
		}
		checkParse(t, text, kinds.Canon(tree))
	}
}

// P4.2, P4.3: so is any other text of it.
func TestAnyTextOfATypeIsParsed(t *testing.T) {
	g := newGrower(true)
	for i := range 3000 {
		tree := g.typ(i % 6)
		checkParse(t, g.spread(g.bracketed(tree)), sorted(tree))
	}
}

// P4.3: up to 200 levels; of more Parse tells Deep.
func TestWhatIsPrintedOfDeepTypes(t *testing.T) {
	for _, deeper := range []func(t api.Type) api.Type{
		func(t api.Type) api.Type { return function(t, whole) },
		func(t api.Type) api.Type { return function(whole, t) },
		func(t api.Type) api.Type { return record(field("a", t, dynRow)) },
		func(t api.Type) api.Type { return variant(field("b", truth, field("a", t, nilRow))) },
	} {
		tree, levels := truth, 1
		for ; levels <= 210; levels++ {
			text, e := Print(tree)
			if e != api.OK {
				t.Fatalf("Print, %d levels: %v", levels, e)
			}
			got, _, e := Parse([]byte(text))
			isDeep := e == api.Deep && got.Op == 0
			if !isDeep && (e != api.OK || dump(got) != dump(kinds.Canon(tree))) {
				t.Errorf("Parse of %.30q, %d levels: %.200s, %v", text, levels, dump(got), e)
			}
			if most := levelsOf(tree); isDeep != (most > api.MaxDepth) {
				t.Errorf("Parse of %.30q, %d levels: %v", text, most, e)
			}
			tree = deeper(tree)
		}
	}
}

// levelsOf the text of a type: the highest one, if its own is 1. What a
// function is of has a further one only if it stands in brackets.
func levelsOf(t api.Type) int {
	switch t.Op {
	case api.TFun:
		from := levelsOf(t.Kids[0])
		if t.Kids[0].Op == api.TFun {
			from++
		}
		return max(from, levelsOf(t.Kids[1])+1)
	case api.TRec, api.TVnt:
		most := 1
		for row := t.Kids[0]; row.Op == api.RField; row = row.Kids[1] {
			most = max(most, levelsOf(row.Kids[0])+1)
		}
		return most
	}
	return 1
}

// P4.3: two right types have one text just if they are the same.
func TestTextsAreAsTypesAre(t *testing.T) {
	g := newGrower(false)
	l := grown(250, false)
	l = append(l, whole, variable(0), variable(1), variable(11), record(rowVariable(1)), record(rowVariable(11)), variant(rowVariable(1)),
		function(function(whole, whole), whole), function(whole, function(whole, whole)),
		record(field("a", whole, field("a", truth, nilRow))), record(field("a", truth, field("a", whole, nilRow))),
		record(field("a", function(whole, whole), nilRow)), function(record(field("a", whole, nilRow)), whole))
	texts := make([]string, len(l))
	for i, tree := range l {
		texts[i], _ = Print(tree)
		checkPrint(t, g.shuffled(tree), texts[i])
		if strings.ContainsAny(texts[i], " \t\r\n") {
			t.Errorf("blanks in %q", texts[i])
		}
	}
	for i, a := range l {
		for j, b := range l {
			if (texts[i] == texts[j]) != kinds.Same(a, b) {
				t.Errorf("%q and %q are texts of %s and %s", texts[i], texts[j], dump(a), dump(b))
			}
		}
	}
}
