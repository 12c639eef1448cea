package prose

import (
	"strings"
	"testing"

	"rowan/api"
	"rowan/parse"
	"rowan/tree"
)

// checkBoth ways: what is told is parsed as the same term.
func checkBoth(t *testing.T, term api.Term) string {
	t.Helper()
	text, e := Print(term)
	if e != api.OK {
		t.Errorf("Print of %.300s: %v", dump(term), e)
		return text
	}
	got, _, at, e := parse.Expr([]byte(text))
	if e != api.OK || !tree.Same(got, term) {
		t.Errorf("Expr of %.300q: %.300s, %d, %v; it was told of %.300s", text, dump(got), at, e, dump(term))
	}
	return text
}

// P7.2: what is told is parsed as the same term.
func TestWhatIsPrintedIsParsed(t *testing.T) {
	for levels := range 4 {
		for _, term := range nested(levels) {
			checkBoth(t, term)
		}
	}
	count := 0
	for _, term := range grown(4000) {
		if tree.Count(term) <= api.MaxNodes {
			checkBoth(t, term)
			count++
		}
	}
	if count < 3000 {
		t.Errorf("only %d terms", count)
	}
}

// P7.2: two right expressions have one text just if they are the same.
func TestTextsAreAsTermsAre(t *testing.T) {
	of := map[string]string{}
	add := func(term api.Term) {
		t.Helper()
		text, d := checkBoth(t, term), dump(sorted(term))
		if was, there := of[text]; there && was != d {
			t.Errorf("%q is the text of %.300s and %.300s", text, was, d)
		}
		of[text] = d
	}
	count := 0
	for levels := range 4 {
		for _, term := range nested(levels) {
			add(term)
			count++
		}
	}
	for _, term := range grown(2000) {
		if tree.Count(term) <= api.MaxNodes {
			add(term)
		}
	}
	if len(of) < count/2 {
		t.Errorf("only %d texts", len(of))
	}
}

// sorted: its annotations are canonical.
func sorted(t api.Term) api.Term {
	t = clone(t)
	t.Ann = sortedType(t.Ann)
	for i := range t.Kids {
		t.Kids[i] = sorted(t.Kids[i])
	}
	return t
}

func sortedType(t api.Type) api.Type {
	for i := range t.Kids {
		t.Kids[i] = sortedType(t.Kids[i])
	}
	if t.Op == api.RField && t.Kids[1].Op == api.RField && t.Kids[1].Name < t.Name {
		second := t.Kids[1]
		return field(second.Name, second.Kids[0], sortedType(field(t.Name, t.Kids[0], second.Kids[1])))
	}
	return t
}

// P7.2: the same term has the same text, in whatever order the fields of its annotations are.
func TestTextsOfTheSameTerms(t *testing.T) {
	g := newGrower()
	changed := 0
	for _, term := range grown(1500) {
		other := g.shuffledTerm(term)
		if dump(other) != dump(term) {
			changed++
		}
		text, _ := Print(term)
		checkPrint(t, other, text)
	}
	if changed < 50 {
		t.Errorf("only %d terms are others", changed)
	}
	if a, b := printed(noted(fun("x", x), whole)), printed(noted(fun("x", x), truth)); a == b {
		t.Errorf("%q is the text of two terms", a)
	}
}

func printed(t api.Term) string {
	s, _ := Print(t)
	return s
}

// P7.1: brackets stand only where without them the text would be another one's, or none.
func TestNoBracketsForNothing(t *testing.T) {
	for levels := range 4 {
		for _, term := range nested(levels) {
			text := printed(term)
			for i := range text {
				if text[i] != '(' {
					continue
				}
				end := i + closing(text[i:])
				without := text[:i] + " " + text[i+1:end] + " " + text[end+1:]
				if got, _, _, e := parse.Expr([]byte(without)); e == api.OK && tree.Same(got, term) {
					t.Errorf("%q could be told without the brackets at %d", text, i)
				}
			}
		}
	}
}

// closing: the place of the bracket that closes the first one.
func closing(text string) int {
	level := 0
	for i := range text {
		switch text[i] {
		case '(':
			level++
		case ')':
			level--
			if level == 0 {
				return i
			}
		}
	}
	return -1
}

// P7.1: no blank stands where the chapter shows none.
func TestNoBlanksForNothing(t *testing.T) {
	for _, term := range append(nested(2), grown(1000)...) {
		text := printed(term)
		for _, wrong := range []string{"  ", "( ", " )", "{ ", " }", " ,", " .", ". ", " ;", "@ ", "^ ", "\\ ", " \\", "\n", "\t"} {
			if strings.Contains(text, wrong) {
				t.Errorf("%q in %.300q", wrong, text)
			}
		}
		if strings.TrimSpace(text) != text {
			t.Errorf("blanks around %.300q", text)
		}
	}
}

// P7.2: terms around the limits of parse. Each is told; what is parsed of that
// is the same, up to so many levels.
func TestWhatIsPrintedAroundTheLimits(t *testing.T) {
	for _, c := range towers() {
		for count := 1; count <= 210; count++ {
			term := c.times(count)
			text := printed(term)
			got, _, _, e := parse.Expr([]byte(text))
			switch {
			case e == api.OK && !tree.Same(got, term):
				t.Errorf("%s, %d times: %.100q is parsed as another term", c.open, count, text)
			case e != api.OK && e != api.Deep:
				t.Errorf("%s, %d times: %.100q, %v", c.open, count, text, e)
			case (e == api.Deep) != (c.levels > 0 && count > c.levels):
				t.Errorf("%s, %d times: %.100q, %v", c.open, count, text, e)
			}
		}
	}
}

// P7.1: what parse tells Large of is told nevertheless.
func TestPrintOfLargeTerms(t *testing.T) {
	sum, text := x, "x"
	long := strings.Repeat("z", 32)
	for range 2600 {
		sum = named(api.EBin, "+", sum, name(long))
	}
	text += strings.Repeat(" + "+long, 2600)
	checkPrint(t, sum, text)
	if _, _, _, e := parse.Expr([]byte(text)); e != api.Large {
		t.Errorf("Expr of %d bytes: %v", len(text), e)
	}
	for range 2600 {
		sum = named(api.EBin, "-", sum, one)
	}
	checkPrint(t, sum, text+strings.Repeat(" - 1", 2600))
}
