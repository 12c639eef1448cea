package prec

import (
	"testing"

	"rowan/api"
	"rowan/kinds"
	"rowan/show"
)

func checkLoosen(t *testing.T, tree api.Type, b []byte, want api.Type) {
	t.Helper()
	if got := Loosen(tree, b); dump(got) != dump(want) {
		t.Errorf("Loosen of %s by %v: %s; want %s", dump(tree), b, dump(got), dump(want))
	}
}

// checkTold: what a type whose text is told becomes.
func checkTold(t *testing.T, text string, b []byte, want string) {
	t.Helper()
	if got, e := show.Print(Loosen(kind(t, text), b)); got != want || e != api.OK {
		t.Errorf("Loosen of %s by %v: %s, %v; want %s", text, b, got, e, want)
	}
}

// P8.2: each part by its number in the canonical form.
func TestLoosen(t *testing.T) {
	checkTold(t, "Int", []byte{1}, "?")
	checkTold(t, "?", []byte{1}, "?")
	checkTold(t, "{}", []byte{1}, "?")
	checkTold(t, "{}", []byte{0, 1}, "{|?}")
	checkTold(t, "<>", []byte{0, 1}, "<|?>")
	checkTold(t, "{|?}", []byte{0, 1}, "{|?}")
	for i, want := range []string{"?", "?->{a:Bool}->?", "Int->?", "Int->?->?", "Int->{|?}->?", "Int->{a:?}->?", "Int->{a:Bool|?}->?", "Int->{a:Bool}->?"} {
		b := make([]byte, 8)
		b[i] = 1
		checkTold(t, "Int->{a:Bool}->?", b, want)
	}
	// <a:Int,b:Bool,b:?>: itself, its row, Int, the row behind, Bool, the row behind, ?, the end
	for i, want := range []string{"?", "<|?>", "<a:?,b:Bool,b:?>", "<a:Int|?>", "<a:Int,b:?,b:?>", "<a:Int,b:Bool|?>", "<a:Int,b:Bool,b:?>", "<a:Int,b:Bool,b:?|?>"} {
		b := make([]byte, 8)
		b[i] = 1
		checkTold(t, "<b:Bool,a:Int,b:?>", b, want)
	}
}

// P8.2: a part that becomes ? takes the bytes of all in it.
func TestLoosenOfSeveralParts(t *testing.T) {
	// Int->Bool; its parts; Int; Bool; {a:Int}; its row; Int; the end
	checkTold(t, "(Int->Bool)->{a:Int}", []byte{0, 1, 0, 0, 0, 0, 1}, "?->{a:?}")
	checkTold(t, "(Int->Bool)->{a:Int}", []byte{0, 1, 1, 1, 0, 0, 1}, "?->{a:?}")
	checkTold(t, "(Int->Bool)->{a:Int}", []byte{0, 0, 1, 1, 1}, "(?->?)->?")
	checkTold(t, "(Int->Bool)->{a:Int}", []byte{0, 0, 0, 1, 0, 1}, "(Int->?)->{|?}")
	checkTold(t, "(Int->Bool)->{a:Int}", []byte{1, 1, 1, 1, 1, 1, 1, 1}, "?")
	checkTold(t, "{a:{x:Int},b:Bool,c:Int}", []byte{0, 0, 1, 1, 1, 1, 0, 1, 0, 1}, "{a:?,b:?,c:?}")
	checkTold(t, "{a:{x:Int},b:Bool,c:Int}", []byte{0, 0, 0, 1, 1, 1, 0, 0, 1}, "{a:{|?},b:Bool|?}")
}

// P8.2: odd bytes alone count; those that lack are 0, and those behind the parts play no part.
func TestLoosenByBytes(t *testing.T) {
	for i := range 256 {
		want := []string{"Int->Bool", "?->Bool"}[i%2]
		checkTold(t, "Int->Bool", []byte{0, byte(i)}, want)
		checkTold(t, "Int->Bool", []byte{byte(i &^ 1), byte(i), 0, byte(i)}, want)
	}
	checkTold(t, "Int->Bool", nil, "Int->Bool")
	checkTold(t, "Int->Bool", []byte{}, "Int->Bool")
	checkTold(t, "Int->Bool", []byte{0, 0, 0, 1, 1, 1, 1}, "Int->Bool")
	checkTold(t, "Int->Bool", []byte{0, 0, 1, 1}, "Int->?")
}

// P8.2: rows, too; what is told is canonical, and new numbers aren't given.
func TestLoosenOfRows(t *testing.T) {
	unsorted := field("b", whole, field("a", variable(7), field("b", truth, rowVariable(3))))
	sorted := field("a", variable(7), field("b", whole, field("b", truth, rowVariable(3))))
	checkLoosen(t, unsorted, nil, sorted)
	checkLoosen(t, node(api.TRec, unsorted), nil, node(api.TRec, sorted))
	checkLoosen(t, unsorted, []byte{1}, dynRow)
	checkLoosen(t, unsorted, []byte{0, 1}, field("a", dyn, sorted.Kids[1]))
	checkLoosen(t, unsorted, []byte{0, 0, 1}, field("a", variable(7), dynRow))
	checkLoosen(t, unsorted, []byte{0, 0, 0, 1}, field("a", variable(7), field("b", dyn, field("b", truth, rowVariable(3)))))
	checkLoosen(t, unsorted, []byte{0, 0, 0, 0, 0, 0, 1}, field("a", variable(7), field("b", whole, field("b", truth, dynRow))))
	for _, tree := range []api.Type{nilRow, dynRow, rowVariable(0)} {
		checkLoosen(t, tree, []byte{0, 1}, tree)
		checkLoosen(t, tree, []byte{1}, dynRow)
	}
}

// P8.2
func TestLoosenOfWhatIsNotRight(t *testing.T) {
	for _, wrong := range wrongTrees() {
		for _, b := range [][]byte{nil, {0}, {1}, {1, 1, 1}, {0, 1}} {
			checkLoosen(t, wrong, b, api.Type{})
			checkLoosen(t, node(api.TFun, wrong, whole), b, api.Type{})
			checkLoosen(t, field("a", whole, field("a", wrong, nilRow)), b, api.Type{})
		}
	}
}

// P8.2: each choice of the parts of small types, against the chapter's words.
func TestLoosenByEachChoice(t *testing.T) {
	for _, text := range []string{"Int", "{}", "?->Bool", "(Int->Bool)->?", "{b:Int,a:Bool}", "<a:{b:Int},a:?|?>", "|{b:Int->Int,a:Bool,b:?}", "{a:{b:{c:{}}}}"} {
		tree := kind(t, text)
		size := kinds.Size(tree)
		for choice := range 1 << (size + 1) {
			b := make([]byte, size+1)
			for i := range b {
				b[i] = byte(choice >> i & 1)
			}
			checkLoosen(t, tree, b, slowLoosen(tree, b))
		}
	}
}

// P8.2: against the chapter's words.
func TestLoosenOfGrownTypes(t *testing.T) {
	g := newGrower()
	changed := 0
	for _, tree := range g.grown(4000) {
		b := g.bytes(kinds.Size(tree))
		want := slowLoosen(tree, b)
		if dump(want) != dump(kinds.Canon(tree)) {
			changed++
		}
		checkLoosen(t, tree, b, want)
		checkLoosen(t, g.shuffled(tree), b, want)
		if got := Loosen(tree, b); kinds.Right(got) != kinds.Right(tree) || kinds.Row(got) != kinds.Row(tree) || dump(kinds.Canon(got)) != dump(got) {
			t.Errorf("Loosen of %s by %v isn't canonical: %s", dump(tree), b, dump(got))
		}
	}
	if changed < 1000 {
		t.Errorf("only %d types are others", changed)
	}
}
