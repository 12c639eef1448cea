package tree

import (
	"fmt"
	"math"
	"regexp"
	"strings"
	"testing"

	"rowan/api"
)

// row of the chapter's table: name, arg, N, annotation, Kids; - is none.
// n a name, s a sign; i from 0 on, b 0 or 1; ? perhaps, ! always.
// Of Kids e is an expression, a an arm, l an else.
type row struct{ name, arg, n, ann, kids, sort string }

func table() map[api.Op]row {
	t := map[api.Op]row{
		api.EVar:  {"n", "-", "0", "-", "", "e"},
		api.EInt:  {"-", "-", "i", "-", "", "e"},
		api.EBool: {"-", "-", "b", "-", "", "e"},
		api.EFun:  {"-", "n", "0", "?", "e", "e"},
		api.ERec:  {"n", "n", "0", "?", "e", "e"},
		api.EApp:  {"-", "-", "0", "-", "ee", "e"},
		api.ELet:  {"n", "-", "0", "-", "ee", "e"},
		api.EIf:   {"-", "-", "0", "-", "eee", "e"},
		api.EBin:  {"s", "-", "0", "-", "ee", "e"},
		api.ENil:  {"-", "-", "0", "-", "", "e"},
		api.EExt:  {"n", "-", "0", "-", "ee", "e"},
		api.EUpd:  {"n", "-", "0", "-", "ee", "e"},
		api.ESel:  {"n", "-", "0", "-", "e", "e"},
		api.ECut:  {"n", "-", "0", "-", "e", "e"},
		api.EInj:  {"n", "-", "0", "-", "e", "e"},
		api.EEmb:  {"n", "-", "0", "-", "e", "e"},
		api.ECase: {"-", "-", "0", "-", "ea*l?", "e"},
		api.EArm:  {"n", "n", "0", "-", "e", "a"},
		api.EElse: {"-", "n", "0", "-", "e", "l"},
		api.EAnn:  {"-", "-", "0", "!", "e", "e"},
	}
	return t
}

// annotation: what Has and Ann are, and by which letters of the table that is right.
type annotation struct {
	has   bool
	ann   api.Type
	right string
}

func annotations() []annotation {
	return []annotation{
		{false, api.Type{}, "-?"},
		{true, whole, "?!"},
		{true, api.Type{}, ""},
		{false, whole, ""},
		{true, nilRow, ""},
		{true, api.Type{Op: api.TVar}, ""},
		{true, api.Type{Op: api.TFun}, ""},
	}
}

// listsOfKids: all of up to so many, by their sorts; - is what is no node.
func listsOfKids(most int) map[string][]api.Term {
	l := map[string][]api.Term{"": nil}
	last := []string{""}
	for range most {
		var longer []string
		for _, sorts := range last {
			for sort, kid := range map[string]api.Term{"e": one, "a": branch("a", "x", x), "l": otherwise("x", x), "-": {}} {
				l[sorts+sort] = append(append([]api.Term(nil), l[sorts]...), kid)
				longer = append(longer, sorts+sort)
			}
		}
		last = longer
	}
	return l
}

func fitsLetter(letter, s string) bool {
	switch letter {
	case "n":
		return s == "a" || s == "int"
	case "s":
		return s == "+" || s == "=="
	}
	return s == ""
}

func numberFits(letter string, n int64) bool {
	switch letter {
	case "i":
		return n >= 0
	case "b":
		return n == 0 || n == 1
	}
	return n == 0
}

// checkRight: what it is, and what wholes are in which it is a Kid.
func checkRight(t *testing.T, term api.Term, ok bool, sort string) {
	t.Helper()
	for what, c := range map[string]struct {
		whole api.Term
		want  bool
	}{
		"alone":         {term, ok && sort == "e"},
		"as a Kid":      {named(api.EInj, "a", term), ok && sort == "e"},
		"of a case":     {node(api.ECase, term), ok && sort == "e"},
		"in a case":     {node(api.ECase, x, term, branch("a", "x", x)), ok && sort == "a"},
		"as a last one": {node(api.ECase, x, branch("a", "x", x), term), ok && sort != "e"},
	} {
		if got := Right(c.whole); got != c.want {
			t.Errorf("Right of %.300s, %s: %v", dump(term), what, got)
		}
	}
}

// P5.1: every Op, with each mix of parts, against the chapter's table.
func TestRightByTheParts(t *testing.T) {
	lists := listsOfKids(3)
	for op, r := range table() {
		kidsAre := regexp.MustCompile("^(" + r.kids + ")$")
		for _, name := range []string{"", "a", "int", "A", "fun", "+", "==", "->"} {
			for _, arg := range []string{"", "a", "1", "+"} {
				for _, n := range []int64{math.MinInt64, -1, 0, 1, 2, math.MaxInt64} {
					for _, a := range annotations() {
						rest := fitsLetter(r.name, name) && fitsLetter(r.arg, arg) &&
							numberFits(r.n, n) && strings.Contains(a.right, r.ann)
						for sorts, kids := range lists {
							term := api.Term{Op: op, Name: name, Arg: arg, N: n, Has: a.has, Ann: a.ann, Kids: kids}
							want := rest && kidsAre.MatchString(sorts) && r.sort == "e"
							if got := Right(term); got != want {
								t.Fatalf("Right of %s: %v", dump(term), got)
							}
						}
					}
				}
			}
		}
	}
}

// fitting: what an Op asks for, but for its Kids.
func fitting(op api.Op) api.Term {
	r := table()[op]
	letters := map[string]string{"n": "a", "s": "%"}
	term := api.Term{Op: op, Name: letters[r.name], Arg: letters[r.arg]}
	if r.ann == "!" {
		return noted(term, whole)
	}
	return term
}

// P5.1: longer lists of Kids, and nodes as Kids.
func TestRightByTheKids(t *testing.T) {
	for op, r := range table() {
		kidsAre := regexp.MustCompile("^(" + r.kids + ")$")
		for sorts, kids := range listsOfKids(5) {
			term := fitting(op)
			term.Kids = kids
			checkRight(t, term, kidsAre.MatchString(sorts), r.sort)
		}
	}
}

// P5.1: Ops that no node has.
func TestRightOfOtherOps(t *testing.T) {
	for op := range 256 {
		if _, there := table()[api.Op(op)]; there {
			continue
		}
		for _, kids := range listsOfKids(3) {
			for _, name := range []string{"", "a"} {
				checkRight(t, api.Term{Op: api.Op(op), Name: name, Kids: kids}, false, "e")
			}
		}
	}
}

// P5.1: a name is one by lexis, wherever it stands.
func TestRightOfNames(t *testing.T) {
	for word, want := range map[string]bool{
		"a": true, "a_1": true, "z9__": true, "int": true, "bool": true, strings.Repeat("x", 32): true,
		"": false, "A": false, "_a": false, "1a": false, "aB": false, "a b": false, "a\n": false, "end": false, "Bool": false, "true": false,
		"\u00e9": false, "a\xff": false, "+": false, strings.Repeat("x", 33): false, strings.Repeat("x", 1000): false,
	} {
		for op, r := range table() {
			term := fitting(op)
			for range len(strings.Trim(r.kids, "a*l?")) {
				term.Kids = append(term.Kids, x)
			}
			if op == api.ECase {
				term.Kids = []api.Term{x}
			}
			checkRight(t, term, true, r.sort)
			if r.name == "n" {
				changed := term
				changed.Name = word
				checkRight(t, changed, want, r.sort)
			}
			if r.arg == "n" {
				changed := term
				changed.Arg = word
				checkRight(t, changed, want, r.sort)
			}
		}
	}
}

// P5.1: the seven signs, and no others.
func TestRightOfSigns(t *testing.T) {
	for _, sign := range []string{"+", "-", "*", "/", "%", "<", "=="} {
		checkRight(t, named(api.EBin, sign, x, one), true, "e")
	}
	for _, sign := range []string{"", "=", ">", ">=", "<=", "!=", "&", "++", "<<", "===", " +", "+ ", "=>", "->", ":=", "|", "\\", "a", "add", "\x00"} {
		checkRight(t, named(api.EBin, sign, x, one), false, "e")
	}
}

// P5.1: an annotation is a right closed type, canonical or not.
func TestRightOfAnnotations(t *testing.T) {
	variable := api.Type{Op: api.TVar}
	right := []api.Type{
		whole, truth, open, function(whole, open), record(nilRow), record(dynRow), variant(field("a", whole, dynRow)),
		record(field("b", whole, field("a", truth, field("b", open, nilRow)))),
	}
	wrong := []api.Type{
		{}, nilRow, dynRow, field("a", whole, nilRow), {Op: 255}, {Op: api.EInt},
		variable, {Op: api.TVar, N: 7}, {Op: api.RVar}, function(whole, variable), function(variable, whole), record(api.Type{Op: api.RVar}), variant(field("a", variable, nilRow)),
		function(whole, nilRow), record(whole), record(field("A", whole, nilRow)), {Op: api.TInt, N: 1}, {Op: api.TBool, Name: "a"},
	}
	for _, term := range []api.Term{fun("x", x), rec("f", "x", x), node(api.EAnn, x)} {
		for _, a := range right {
			checkRight(t, noted(term, a), true, "e")
			checkRight(t, api.Term{Op: term.Op, Name: term.Name, Arg: term.Arg, Ann: a, Kids: term.Kids}, false, "e")
		}
		for _, a := range wrong {
			checkRight(t, noted(term, a), false, "e")
		}
	}
}

// P5.1: what has no annotation has the zero type as Ann, in each of its parts.
func TestRightOfNoAnnotation(t *testing.T) {
	for _, term := range []api.Term{fun("x", x), x, one, none} {
		for _, a := range []api.Type{whole, {Name: "a"}, {N: 1}, {N: -1}, {Kids: []api.Type{{}}}} {
			term.Ann = a
			checkRight(t, term, false, "e")
		}
		term.Ann = api.Type{Kids: []api.Type{}}
		checkRight(t, term, true, "e")
	}
}

// P5.1: nil and empty lists of Kids are alike.
func TestRightOfNilAndEmptyKids(t *testing.T) {
	for _, term := range []api.Term{x, one, boolean(1), none} {
		term.Kids = nil
		checkRight(t, term, true, "e")
		term.Kids = make([]api.Term, 0, 3)
		checkRight(t, term, true, "e")
		term.Kids = []api.Term{{}}
		checkRight(t, term, false, "e")
	}
}

// P5.1
func TestRightOfOrdinaryTerms(t *testing.T) {
	checkRight(t, everyOp(), true, "e")
	for _, term := range grown(600) {
		checkRight(t, term, true, "e")
	}
	for _, term := range wrongTerms() {
		if Right(term) {
			t.Errorf("Right of %s", dump(term))
		}
	}
}

// P5.1: one wrong part anywhere makes the whole wrong.
func TestRightOfOneWrongPart(t *testing.T) {
	faults := []func(p *api.Term) bool{
		func(p *api.Term) bool { p.N = -1; return true },
		func(p *api.Term) bool { p.N += 2; return p.Op != api.EInt },
		func(p *api.Term) bool { p.Name += " "; return true },
		func(p *api.Term) bool { p.Name += "a"; return p.Name == "a" || p.Op == api.EBin },
		func(p *api.Term) bool { p.Arg += " "; return true },
		func(p *api.Term) bool { p.Arg += "a"; return p.Arg == "a" },
		func(p *api.Term) bool { p.Arg = ""; return p.Op == api.EFun || p.Op == api.EElse },
		func(p *api.Term) bool { p.Has = !p.Has; return true },
		func(p *api.Term) bool { p.Ann.N++; return true },
		func(p *api.Term) bool { p.Kids = append(p.Kids, one); return true },
		func(p *api.Term) bool { p.Kids = append(p.Kids, branch("a", "x", x)); return p.Op != api.ECase },
		func(p *api.Term) bool { p.Kids = append([]api.Term{{}}, p.Kids...); return true },
		func(p *api.Term) bool {
			p.Kids = p.Kids[:max(len(p.Kids)-1, 0)]
			return p.Op > api.EBool && p.Op != api.ENil && p.Op != api.ECase
		},
		func(p *api.Term) bool { p.Op = 0; return true },
		func(p *api.Term) bool { p.Op = api.TInt; return true },
	}
	good := everyOp()
	for i := range slowNodes(good) {
		for j, f := range faults {
			term := clone(good)
			if f(nodeAt(&term, i)) && Right(term) {
				t.Errorf("fault %d at node %d: %s is right", j, i, dump(term))
			}
		}
	}
}

// P5.1, P5.2: a deep term that is wrong at its end.
func TestDeepTermsThatAreWrong(t *testing.T) {
	for what, term := range towers() {
		if !Right(term) {
			t.Errorf("Right of %s", what)
		}
		p := &term
		for len(p.Kids) > 0 {
			p = inner(p)
		}
		p.N = -1
		if Right(term) || Same(term, term) || Value(term) || Static(term) || len(Free(term)) > 0 {
			t.Errorf("%s: %s", what, fmt.Sprint(Right(term), Same(term, term), Value(term), Static(term)))
		}
	}
}

// inner: the Kid that has Kids, or x.
func inner(p *api.Term) *api.Term {
	for i := range p.Kids {
		if k := &p.Kids[i]; len(k.Kids) > 0 || k.Name == "x" {
			return k
		}
	}
	return &p.Kids[0]
}
