package prec

import (
	"testing"

	"rowan/api"
	"rowan/kinds"
	"rowan/parse"
	"rowan/prose"
	"rowan/tree"
)

// texts of terms with annotations in all places, and of each Op.
var texts = []string{
	"1", "x", "true", "{}", "(x : Int)", "fun (x : Int->Bool) => x", "fun x => fun (y : {a:Int|?}) => (x : <a:Int>)",
	"rec f (x : Int) => (f (x : Int) : Bool)",
	"let f = fun (x : {b:Int,a:Bool}) => x.a in (f : {b:Int,a:Bool}->Bool)",
	"if (x : Bool) then {a = (1 : Int), b = (y : ?)} else {a := (z : Int->Int) | (x : {|?})}",
	"(case (x : <a:Int,b:Bool>) of a y => (y : Int); b z => fun (u : Int) => u; else w => (w : <>) end : ?)",
	"^a @b (x : Int) + (((1 : Int) : ?) : Int).b\\c * (rec f (x : ?) => (x : ?))",
	"f (x : {a:{a:Int,a:Bool},b:<|?>}) (y : (Int->Bool)->?)",
}

func checkLoosenTerm(t *testing.T, text string, b []byte, want string) {
	t.Helper()
	got, e := prose.Print(LoosenTerm(term(t, text), b))
	if got != want || e != api.OK {
		t.Errorf("LoosenTerm of %s by %v: %s, %v; want %s", text, b, got, e, want)
	}
}

// P8.2: the annotations take their bytes one behind the other, by the numbers of their nodes.
func TestLoosenTerm(t *testing.T) {
	text := "f (x : Int->Bool) (fun (y : {a:Int}) => y : Int)"
	checkLoosenTerm(t, text, nil, text)
	// The note around the fun stands ahead of it, the fun's own ahead of those in it.
	for i, want := range []string{
		"f (x : ?) (fun (y : {a:Int}) => y : Int)",
		"f (x : ?->Bool) (fun (y : {a:Int}) => y : Int)",
		"f (x : Int->?) (fun (y : {a:Int}) => y : Int)",
		"f (x : Int->Bool) (fun (y : {a:Int}) => y : ?)",
		"f (x : Int->Bool) (fun (y : ?) => y : Int)",
		"f (x : Int->Bool) (fun (y : {|?}) => y : Int)",
		"f (x : Int->Bool) (fun (y : {a:?}) => y : Int)",
		"f (x : Int->Bool) (fun (y : {a:Int|?}) => y : Int)",
		"f (x : Int->Bool) (fun (y : {a:Int}) => y : Int)",
	} {
		b := make([]byte, 9)
		b[i] = 3
		checkLoosenTerm(t, text, b, want)
	}
	checkLoosenTerm(t, "f (x : Int->Bool) (y : Int)", []byte{1, 1, 1}, "f (x : ?) (y : Int)")
	checkLoosenTerm(t, "f (x : Int->Bool) (y : Int)", []byte{1, 0, 0, 1}, "f (x : ?) (y : ?)")
	checkLoosenTerm(t, "f (x : Int->Bool) (y : Int)", []byte{0, 0, 0, 1, 1, 1}, "f (x : Int->Bool) (y : ?)")
	checkLoosenTerm(t, "f x (1 + 2)", []byte{1, 1, 1, 1}, "f x (1 + 2)")
	checkLoosenTerm(t, "rec f (x : Int) => fun y => fun (z : Int) => x", []byte{0, 1}, "rec f (x : Int) => fun y => fun (z : ?) => x")
	checkLoosenTerm(t, "case (x : <a:Int>) of a y => (y : Int); else z => (z : <>) end", []byte{0, 0, 0, 0, 1, 0, 1}, "case (x : <a:Int>) of a y => (y : ?); else z => (z : <|?>) end")
}

// P8.2: annotations are canonical, even those of which no byte is odd.
func TestLoosenedAnnotationsAreCanonical(t *testing.T) {
	noted := func(row api.Type) api.Term {
		x := api.Term{Op: api.EVar, Name: "x"}
		return api.Term{Op: api.EFun, Arg: "x", Has: true, Ann: node(api.TRec, row), Kids: []api.Term{{Op: api.EAnn, Has: true, Ann: node(api.TVnt, row), Kids: []api.Term{x}}}}
	}
	unsorted := field("b", whole, field("a", truth, field("b", truth, nilRow)))
	sorted := field("a", truth, field("b", whole, field("b", truth, nilRow)))
	checkAlikeTerms(t, "LoosenTerm", LoosenTerm(noted(unsorted), nil), noted(sorted))
	got := LoosenTerm(noted(unsorted), []byte{7: 0, 8: 0, 9: 0, 10: 1})
	want := noted(sorted)
	want.Kids[0].Ann = node(api.TVnt, field("a", dyn, sorted.Kids[1]))
	checkAlikeTerms(t, "LoosenTerm", got, want)
}

// P8.2
func TestLoosenTermOfWhatIsNotRight(t *testing.T) {
	x := api.Term{Op: api.EVar, Name: "x"}
	for _, wrong := range wrongTerms() {
		for _, b := range [][]byte{nil, {0}, {1, 1, 1}} {
			checkAlikeTerms(t, "LoosenTerm", LoosenTerm(wrong, b), api.Term{})
			checkAlikeTerms(t, "LoosenTerm", LoosenTerm(api.Term{Op: api.EApp, Kids: []api.Term{x, wrong}}, b), api.Term{})
		}
	}
}

// annotated: how many bytes a term's annotations take.
func annotated(t api.Term) int {
	count := 0
	if t.Has {
		count = kinds.Size(t.Ann)
	}
	for _, k := range t.Kids {
		count += annotated(k)
	}
	return count
}

// P8.2, P8.3: against the chapter's words; what is loosened says no more than what it was.
func TestLoosenTermOfAllTexts(t *testing.T) {
	g := newGrower()
	less := 0
	for _, text := range texts {
		was := term(t, text)
		for range 200 {
			b := g.bytes(annotated(was))
			got := LoosenTerm(was, b)
			checkAlikeTerms(t, text, got, slowLoosenTerm(was, b))
			if !Terms(was, got) {
				t.Errorf("LoosenTerm of %s by %v says more than it: %s", text, b, dumpTerm(got))
			}
			if Terms(got, was) != tree.Same(got, was) {
				t.Errorf("Terms of %s and %s: %v", dumpTerm(got), text, Terms(got, was))
			}
			if !tree.Same(got, was) {
				less++
			}
		}
	}
	if less < 300 {
		t.Errorf("only %d terms say less", less)
	}
}

func checkTerms(t *testing.T, a, b string, want bool) {
	t.Helper()
	if got := Terms(term(t, a), term(t, b)); got != want {
		t.Errorf("Terms of %s and %s: %v", a, b, got)
	}
}

// P8.2: each annotation says at least as much as its partner, and has one.
func TestTerms(t *testing.T) {
	checkTerms(t, "x", "x", true)
	checkTerms(t, "x", "y", false)
	checkTerms(t, "(x : Int)", "(x : Int)", true)
	checkTerms(t, "(x : Int)", "(x : ?)", true)
	checkTerms(t, "(x : ?)", "(x : Int)", false)
	checkTerms(t, "(x : Int)", "(x : Bool)", false)
	checkTerms(t, "(x : Int)", "x", false)
	checkTerms(t, "x", "(x : ?)", false)
	checkTerms(t, "((x : Int) : Int)", "(x : Int)", false)
	checkTerms(t, "fun (x : Int) => x", "fun (x : ?) => x", true)
	checkTerms(t, "fun (x : Int) => x", "fun (y : Int) => y", false)
	checkTerms(t, "fun x => x", "fun (x : ?) => x", false)
	checkTerms(t, "fun (x : ?) => x", "fun x => x", false)
	checkTerms(t, "fun (x : Int) => x", "rec x (x : Int) => x", false)
	checkTerms(t, "rec f (x : {a:Int,b:Int}) => f", "rec f (x : {b:?|?}) => f", true)
	checkTerms(t, "rec f (x : {a:Int}) => f", "rec f x => f", false)
	checkTerms(t, "f (x : Int) (y : ?)", "f (x : ?) (y : ?)", true)
	checkTerms(t, "f (x : Int) (y : ?)", "f (x : ?) (y : Int)", false)
	checkTerms(t, "fun (x : {b:Int,a:Bool}) => x", "fun (x : {a:?,b:Int}) => x", true)
	checkTerms(t, "case (x : <a:Int>) of a y => (y : Int) end", "case (x : <|?>) of a y => (y : ?) end", true)
	checkTerms(t, "case x of a y => 1; b y => 1 end", "case x of b y => 1; a y => 1 end", false)
	checkTerms(t, "case x of a y => 1; else y => 1 end", "case x of a y => 1 end", false)
	// Whose an arm is counts, where all nodes are alike.
	checkTerms(t, "case case x of end of a y => 1 end", "case case x of a y => 1 end of end", false)
	checkTerms(t, "case case x of a y => 1 end of end", "case case x of end of a y => 1 end", false)
}

// P8.2: no two of these are alike but for their annotations.
func TestTermsOfOtherTerms(t *testing.T) {
	l := append([]string{
		"2", "y", "false", "f x", "f y", "f x y", "f (x y)", "x.a", "x.b", "x\\a", "@a x", "^a x", "@b x", "{a = x}", "{b = x}", "{a = y}", "{a = x | x}", "{a := x | x}",
		"x + y", "x - y", "x < y", "x == y", "x * y", "y + x", "let x = 1 in x", "let y = 1 in x", "if x then y else z", "if x then z else y",
		"fun x => x", "fun y => x", "fun x => y", "rec f x => x", "rec x f => x", "rec x x => x", "fun (x : Int) => x",
		"case x of end", "case x of a x => x end", "case x of b x => x end", "case x of a y => x end", "case x of else x => x end", "case x of a x => x; a x => x end", "case x of a x => x; else x => x end",
	}, texts...)
	for i, a := range l {
		for j, b := range l {
			checkTerms(t, a, b, i == j)
		}
	}
}

// P8.2: one node that is another one, or has another annotation, anywhere.
func TestTermsThatDifferInOneNode(t *testing.T) {
	count := 0
	for _, text := range texts {
		was := term(t, text)
		for i := range tree.Count(was) {
			for _, change := range changes() {
				other := tree.Copy(was)
				change(nodeAt(&other, i))
				right := tree.Right(other)
				if Terms(was, other) != (right && slowTerms(was, other)) || Terms(other, was) != (right && slowTerms(other, was)) {
					t.Errorf("Terms of %s and %s: %v, %v", text, dumpTerm(other), Terms(was, other), Terms(other, was))
				}
				if right && !tree.Same(was, other) {
					count++
				}
			}
		}
	}
	if count < 150 {
		t.Errorf("only %d other terms are right", count)
	}
}

// changes of a node, by each of its parts; of an annotation to what goes with nothing in the texts.
func changes() []func(*api.Term) {
	other := field("q", whole, nilRow)
	return []func(*api.Term){
		func(t *api.Term) { *t = api.Term{Op: api.EVar, Name: "q"} },
		func(t *api.Term) { t.Op ^= 1 },
		func(t *api.Term) { t.Name += "q" },
		func(t *api.Term) { t.Name = "-" },
		func(t *api.Term) { t.Arg += "q" },
		func(t *api.Term) { t.N ^= 1 },
		func(t *api.Term) { t.Has, t.Ann = !t.Has, api.Type{} },
		func(t *api.Term) { t.Has, t.Ann = true, node(api.TFun, node(api.TRec, other), node(api.TVnt, other)) },
		func(t *api.Term) { t.Kids = t.Kids[:max(len(t.Kids), 1)-1] },
		func(t *api.Term) {
			t.Kids = append(t.Kids, api.Term{Op: api.EElse, Arg: "q", Kids: []api.Term{{Op: api.ENil}}})
		},
	}
}

// P8.2
func TestTermsOfWhatIsNotRight(t *testing.T) {
	x := api.Term{Op: api.EVar, Name: "x"}
	for _, wrong := range wrongTerms() {
		for _, pair := range [][2]api.Term{{wrong, wrong}, {x, wrong}, {wrong, x}} {
			if Terms(pair[0], pair[1]) {
				t.Errorf("Terms of %s and %s", dumpTerm(pair[0]), dumpTerm(pair[1]))
			}
		}
		around := api.Term{Op: api.EInj, Name: "a", Kids: []api.Term{wrong}}
		if Terms(around, around) {
			t.Errorf("Terms of %s and itself", dumpTerm(around))
		}
	}
	// Alike but for an annotation that it mustn't have.
	right := term(t, "fun x => x")
	wrong := right
	wrong.Ann = dyn
	if Terms(right, wrong) || Terms(wrong, right) {
		t.Error("Terms of a fun, and of one that has no annotation, but a type")
	}
}

// P8.2: what is loosened is told, and read, as a term.
func TestLoosenedTermsAreParsed(t *testing.T) {
	g := newGrower()
	for _, text := range texts {
		for range 20 {
			got := LoosenTerm(term(t, text), g.bytes(40))
			told, e := prose.Print(got)
			read, _, at, f := parse.Expr([]byte(told))
			if e != api.OK || f != api.OK || !tree.Same(read, got) {
				t.Errorf("%s: %v, %d, %v", told, e, at, f)
			}
		}
	}
}
