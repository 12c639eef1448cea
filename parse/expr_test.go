package parse

import (
	"math"
	"strings"
	"testing"

	"rowan/api"
)

// P6.1: the example of the chapter.
func TestTheExample(t *testing.T) {
	checkTerm(t, "f x.a + 1", bin("+", app(name("f"), named(api.ESel, "a", x)), one))
	checkPlaces(t, "f x.a + 1", 0, 0, 0, 2, 2, 8)
}

// P6.1
func TestTermsOfAtoms(t *testing.T) {
	for text, want := range map[string]api.Term{
		"x":                     x,
		"a_1":                   name("a_1"),
		"int":                   name("int"),
		"0":                     {Op: api.EInt},
		"1":                     one,
		"9223372036854775807":   {Op: api.EInt, N: math.MaxInt64},
		"true":                  {Op: api.EBool, N: 1},
		"false":                 {Op: api.EBool},
		"(x)":                   x,
		"((((1))))":             one,
		"(true)":                {Op: api.EBool, N: 1},
		"{}":                    none,
		"{ }":                   none,
		"({})":                  none,
		"(x : Int)":             noted(nodeOf(api.EAnn, x), "Int"),
		"(x : (Int))":           noted(nodeOf(api.EAnn, x), "Int"),
		"((x) : ?->?)":          noted(nodeOf(api.EAnn, x), "?->?"),
		"((x : ?) : Int)":       noted(nodeOf(api.EAnn, noted(nodeOf(api.EAnn, x), "?")), "Int"),
		"(fun x => x : ?)":      noted(nodeOf(api.EAnn, fun("x", x)), "?"),
		"(x y : {b:Int,a:?|?})": noted(nodeOf(api.EAnn, app(x, y)), "{a:?,b:Int|?}"),
		"  # one\n x # two":     x,
	} {
		checkTerm(t, text, want)
	}
	checkTerm(t, strings.Repeat("z", 32), name(strings.Repeat("z", 32)))
}

// P6.1: annotations are canonical, wherever they stand.
func TestAnnotationsAreCanonical(t *testing.T) {
	text := "<b:Bool,a:{d:?,c:?},b:Int|?>"
	sorted := api.Type{Op: api.TVnt, Kids: []api.Type{rowOf(api.RDyn,
		api.Field{Name: "a", Type: api.Type{Op: api.TRec, Kids: []api.Type{rowOf(api.RNil,
			api.Field{Name: "c", Type: api.Type{Op: api.TDyn}}, api.Field{Name: "d", Type: api.Type{Op: api.TDyn}})}}},
		api.Field{Name: "b", Type: api.Type{Op: api.TBool}}, api.Field{Name: "b", Type: api.Type{Op: api.TInt}})}}
	checkTerm(t, "(1 : "+text+")", api.Term{Op: api.EAnn, Has: true, Ann: sorted, Kids: []api.Term{one}})
	checkTerm(t, "fun (x : "+text+") (y : "+text+") => 1", api.Term{Op: api.EFun, Arg: "x", Has: true, Ann: sorted, Kids: []api.Term{
		{Op: api.EFun, Arg: "y", Has: true, Ann: sorted, Kids: []api.Term{one}}}})
	checkTerm(t, "rec f (x : "+text+") => 1", api.Term{Op: api.ERec, Name: "f", Arg: "x", Has: true, Ann: sorted, Kids: []api.Term{one}})
}

func rowOf(tail api.Op, l ...api.Field) api.Type {
	if len(l) == 0 {
		return api.Type{Op: tail}
	}
	return api.Type{Op: api.RField, Name: l[0].Name, Kids: []api.Type{l[0].Type, rowOf(tail, l[1:]...)}}
}

// P6.1
func TestTermsOfRecords(t *testing.T) {
	for text, want := range map[string]api.Term{
		"{a = 1}":                     ext("a", one, none),
		"{a = 1 | {}}":                ext("a", one, none),
		"{a = 1 | x}":                 ext("a", one, x),
		"{a = 1, b = x}":              ext("a", one, ext("b", x, none)),
		"{b = 1, a = x, b = y | z}":   ext("b", one, ext("a", x, ext("b", y, z))),
		"{a = 1 | {b = x}}":           ext("a", one, ext("b", x, none)),
		"{a = fun x => x, b = {} }":   ext("a", fun("x", x), ext("b", none, none)),
		"{a = {a = x}, b = 1}":        ext("a", ext("a", x, none), ext("b", one, none)),
		"{a := 1 | x}":                named(api.EUpd, "a", one, x),
		"{a := 1 | {a := x | y}}":     named(api.EUpd, "a", one, named(api.EUpd, "a", x, y)),
		"{a := {a = x} | {a = 1}}":    named(api.EUpd, "a", ext("a", x, none), ext("a", one, none)),
		"{a = x < y | x == y}":        ext("a", bin("<", x, y), bin("==", x, y)),
		"{a := let x = y in x | x y}": named(api.EUpd, "a", named(api.ELet, "x", y, x), app(x, y)),
	} {
		checkTerm(t, text, want)
	}
}

// P6.1
func TestTermsOfCases(t *testing.T) {
	for text, want := range map[string]api.Term{
		"case x of end":                            nodeOf(api.ECase, x),
		"case x of a y => y end":                   nodeOf(api.ECase, x, arm("a", "y", y)),
		"case x of else z => 1 end":                nodeOf(api.ECase, x, last("z", one)),
		"case x of a y => y; else z => 1 end":      nodeOf(api.ECase, x, arm("a", "y", y), last("z", one)),
		"case x of a a => 1; a y => x; b y=>y end": nodeOf(api.ECase, x, arm("a", "a", one), arm("a", "y", x), arm("b", "y", y)),
		"case x of a y => case y of b z => z; c z => x end; else y => y end": nodeOf(api.ECase, x,
			arm("a", "y", nodeOf(api.ECase, y, arm("b", "z", z), arm("c", "z", x))), last("y", y)),
		"case if x then y else z of a y => if x then y else z; else y => y end": nodeOf(api.ECase, nodeOf(api.EIf, x, y, z),
			arm("a", "y", nodeOf(api.EIf, x, y, z)), last("y", y)),
		"case x of end.a y":                         app(named(api.ESel, "a", nodeOf(api.ECase, x)), y),
		"x case x of end":                           app(x, nodeOf(api.ECase, x)),
		"case fun x => x of a y => fun x => x end":  nodeOf(api.ECase, fun("x", x), arm("a", "y", fun("x", x))),
		"case x of a y => y end + case x of end\\a": bin("+", nodeOf(api.ECase, x, arm("a", "y", y)), named(api.ECut, "a", nodeOf(api.ECase, x))),
	} {
		checkTerm(t, text, want)
	}
}

// P6.1: of what goes down furthest.
func TestTermsOfWhatEndsWithAnExpression(t *testing.T) {
	for text, want := range map[string]api.Term{
		"fun x => x":                          fun("x", x),
		"fun x y z => x":                      fun("x", fun("y", fun("z", x))),
		"fun x x => x":                        fun("x", fun("x", x)),
		"fun x => fun y => x":                 fun("x", fun("y", x)),
		"fun (x : Int) => x":                  noted(fun("x", x), "Int"),
		"fun x (y : Bool) z (x : ?) => x y":   fun("x", noted(fun("y", fun("z", noted(fun("x", app(x, y)), "?"))), "Bool")),
		"fun x => x + 1 < y":                  fun("x", bin("<", bin("+", x, one), y)),
		"fun x => x y : ":                     {},
		"rec f x => f x":                      rec("f", "x", app(name("f"), x)),
		"rec x x => x":                        rec("x", "x", x),
		"rec f x y z => x":                    rec("f", "x", fun("y", fun("z", x))),
		"rec f (x : ?->?) (y : Int) => x":     noted(rec("f", "x", noted(fun("y", x), "Int")), "?->?"),
		"let x = 1 in x":                      named(api.ELet, "x", one, x),
		"let x = let y = 1 in y in x":         named(api.ELet, "x", named(api.ELet, "y", one, y), x),
		"let x = 1 in let y = x in x y":       named(api.ELet, "x", one, named(api.ELet, "y", x, app(x, y))),
		"let x = fun y => y in x < y":         named(api.ELet, "x", fun("y", y), bin("<", x, y)),
		"if x then y else z":                  nodeOf(api.EIf, x, y, z),
		"if x then if y then x else y else z": nodeOf(api.EIf, x, nodeOf(api.EIf, y, x, y), z),
		"if if x then y else z then x else if x then y else z": nodeOf(api.EIf, nodeOf(api.EIf, x, y, z), x, nodeOf(api.EIf, x, y, z)),
		"if x == y then x + y else x * y":                      nodeOf(api.EIf, bin("==", x, y), bin("+", x, y), bin("*", x, y)),
	} {
		if want.Op == 0 {
			checkFault(t, text, len(text)-2, api.Syntax)
		} else {
			checkTerm(t, text, want)
		}
	}
}

// P6.1: what binds closer, and what stands one behind the other goes from the left.
func TestTermsOfSigns(t *testing.T) {
	for _, sign := range []string{"+", "-", "*", "/", "%", "<", "=="} {
		checkTerm(t, "x"+sign+"y", bin(sign, x, y))
		checkTerm(t, "x y "+sign+" z.a", bin(sign, app(x, y), named(api.ESel, "a", z)))
		checkTerm(t, "x "+sign+" (y "+sign+" z)", bin(sign, x, bin(sign, y, z)))
		checkTerm(t, "(x "+sign+" y) "+sign+" z", bin(sign, bin(sign, x, y), z))
	}
	level := map[string]int{"<": 1, "==": 1, "+": 2, "-": 2, "*": 3, "/": 3, "%": 3}
	for first := range level {
		for second := range level {
			text := "x " + first + " y " + second + " z"
			switch {
			case level[first] == 1 && level[second] == 1:
				checkFault(t, text, 5+len(first), api.Syntax)
			case level[first] >= level[second]:
				checkTerm(t, text, bin(second, bin(first, x, y), z))
			default:
				checkTerm(t, text, bin(first, x, bin(second, y, z)))
			}
		}
	}
	checkTerm(t, "x - y + z - 1", bin("-", bin("+", bin("-", x, y), z), one))
	checkTerm(t, "x * y / z % 1", bin("%", bin("/", bin("*", x, y), z), one))
	checkTerm(t, "x + y * z - 1 == x - y", bin("==", bin("-", bin("+", x, bin("*", y, z)), one), bin("-", x, y)))
}

// P6.1
func TestTermsOfPres(t *testing.T) {
	for text, want := range map[string]api.Term{
		"x y":             app(x, y),
		"x y z":           app(app(x, y), z),
		"x (y z)":         app(x, app(y, z)),
		"x 1 true {} x":   app(app(app(app(x, one), api.Term{Op: api.EBool, N: 1}), none), x),
		"@a x":            named(api.EInj, "a", x),
		"^a x":            named(api.EEmb, "a", x),
		"@ a ^ b @ c x":   named(api.EInj, "a", named(api.EEmb, "b", named(api.EInj, "c", x))),
		"@a x y":          app(named(api.EInj, "a", x), y),
		"x @a y z":        app(app(x, named(api.EInj, "a", y)), z),
		"@a (x y)":        named(api.EInj, "a", app(x, y)),
		"@a x.b":          named(api.EInj, "a", named(api.ESel, "b", x)),
		"(@a x).b":        named(api.ESel, "b", named(api.EInj, "a", x)),
		"@a x + ^b y":     bin("+", named(api.EInj, "a", x), named(api.EEmb, "b", y)),
		"x.a":             named(api.ESel, "a", x),
		"x\\a":            named(api.ECut, "a", x),
		"x.a\\b.c":        named(api.ESel, "c", named(api.ECut, "b", named(api.ESel, "a", x))),
		"x y.a z\\b":      app(app(x, named(api.ESel, "a", y)), named(api.ECut, "b", z)),
		"(x y).a":         named(api.ESel, "a", app(x, y)),
		"{a = 1}\\a.a":    named(api.ESel, "a", named(api.ECut, "a", ext("a", one, none))),
		"1.a":             named(api.ESel, "a", one),
		"true.a false\\a": app(named(api.ESel, "a", api.Term{Op: api.EBool, N: 1}), named(api.ECut, "a", api.Term{Op: api.EBool})),
		"(x:Int).a":       named(api.ESel, "a", noted(nodeOf(api.EAnn, x), "Int")),
		"(fun x=>x)y":     app(fun("x", x), y),
	} {
		checkTerm(t, text, want)
	}
}

// P6.1
func TestPlaces(t *testing.T) {
	checkPlaces(t, "x", 0)
	checkPlaces(t, " # a\n 12 ", 6)
	checkPlaces(t, "((x))", 2)
	checkPlaces(t, "{}", 0)
	checkPlaces(t, "({ })", 1)
	// Of a first Kid in brackets the first one counts, or one within it; of the node itself none.
	checkPlaces(t, "(x) y", 0, 1, 4)
	checkPlaces(t, "((x)) y", 0, 2, 6)
	checkPlaces(t, "((x y) z)", 1, 2, 2, 4, 7)
	checkPlaces(t, "(x y) z", 0, 1, 1, 3, 6)
	checkPlaces(t, "((f x)).a + 1", 0, 0, 2, 2, 4, 12)
	checkPlaces(t, "(((x)\\a) == y)", 1, 2, 3, 12)
	checkPlaces(t, "((x) + y) * z - 1", 0, 0, 1, 2, 7, 12, 16)
	checkPlaces(t, "x - (y - z)", 0, 0, 5, 5, 9)
	checkPlaces(t, "x + y * z", 0, 0, 4, 4, 8)
	checkPlaces(t, "x y z", 0, 0, 0, 2, 4)
	checkPlaces(t, "x.a\\b.c", 0, 0, 0, 0)
	checkPlaces(t, "@a (x) y", 0, 0, 4, 7)
	checkPlaces(t, "x ^a @b (y)", 0, 0, 2, 5, 9)
	checkPlaces(t, "(@a x).b", 0, 1, 4)
	checkPlaces(t, "(x : Int)", 0, 1)
	checkPlaces(t, "(((x)) : Int)", 0, 3)
	checkPlaces(t, " ((x : ?) : Int) y", 1, 1, 2, 3, 17)
	checkPlaces(t, "((x : ?))", 1, 2)
	checkPlaces(t, "(x y : ?)", 0, 1, 1, 3)
	checkPlaces(t, "fun x (y : ?) z => x", 0, 6, 14, 19)
	checkPlaces(t, "fun (x : ?) => (x)", 0, 16)
	checkPlaces(t, "rec f (x : ?) y (z:?) => x", 0, 14, 16, 25)
	checkPlaces(t, "let x = (1) in (x y)", 0, 9, 16, 16, 18)
	checkPlaces(t, "if (x) then y else z", 0, 4, 12, 19)
	checkPlaces(t, "{a = 1}", 0, 5, 6)
	checkPlaces(t, "{a = 1, b = x , c = y }", 0, 5, 8, 12, 16, 20, 22)
	checkPlaces(t, "{a = 1, b = x | {}}", 0, 5, 8, 12, 16)
	checkPlaces(t, "{a = 1 | (r)}", 0, 5, 10)
	checkPlaces(t, "{a = 1 | {b = 2}}", 0, 5, 9, 14, 15)
	checkPlaces(t, "{ a := (x) | y.a }", 0, 8, 13, 13)
	checkPlaces(t, "{a = 1}.a {}", 0, 0, 0, 5, 6, 10)
	checkPlaces(t, "case x of end", 0, 5)
	checkPlaces(t, "case (x) of a y => (y); b z => z y; else w => 1 end", 0, 6, 12, 20, 24, 31, 31, 33, 36, 46)
	checkPlaces(t, "(case x of end) y", 0, 1, 6, 16)
}

// P6.1: Tokens' errors come ahead of all others.
func TestExprTellsTokensErrors(t *testing.T) {
	checkFault(t, ") !", 2, api.Strange)
	checkFault(t, "fun fun 01", 8, api.Strange)
	checkFault(t, "x 'a", 2, api.Strange)
	checkFault(t, "X", 0, api.Strange)
	checkFault(t, "x # \xff", 4, api.Utf)
	checkFault(t, "x \xc3", 2, api.Utf)
	checkFault(t, "x "+strings.Repeat("y", 33), 2, api.Large)
	checkFault(t, "x 9223372036854775808", 2, api.Large)
	checkFault(t, "x"+strings.Repeat(" ", api.MaxSource), 0, api.Large)
	checkFault(t, strings.Repeat(")", api.MaxSource+1), 0, api.Large)
	checkFault(t, strings.Repeat("(", 300)+"$", 300, api.Strange)
	checkFault(t, strings.Repeat("x ", 6000)+"~", 12000, api.Strange)
	checkTerm(t, "x"+strings.Repeat(" ", api.MaxSource-1), x)
}

// P6.1
func TestExprTellsTheFirstTokenThatCantStandThere(t *testing.T) {
	checkFaultsAtMarks(t, `
		~
		~)
		~=
		~def
		~in
		~else
		~end
		~Int
		~?
		~+ 1
		~- 1
		~< x
		~.a
		~, x
		x ~)
		x ~: Int
		x ~= 1
		x ~:= 1
		x ~=> 1
		x ~-> 1
		x ~> 1
		x ~, y
		x ~; y
		x ~| y
		x ~fun
		x ~fun y => y
		x ~rec f y => y
		x ~let y = x in y
		x ~if
		x ~def
		x ~? y
		x < ~
		x < ~fun y => y
		x < y ~< z
		x < y ~== z
		x == y ~== z
		x == y ~< z
		x <~= y
		x + ~
		x + ~+ y
		x + ~let y = 1 in y
		x * ~if x then y else z
		x * ~- y
		x - ~)
		x.~
		x.~1
		x.~fun
		x.~(a)
		x.~.a
		x.~Int
		x\~
		x\~\
		x\~true
		@~
		@~1 x
		@~@a x
		@~(a) x
		@a ~
		@a ~+ x
		@a ~fun x => x
		@a ~)
		^~
		^~end x
		^a ~
		^a @b ~, x
		(~
		(~)
		(~: Int)
		(x~
		(x~}
		(x~, y)
		(x ~= y)
		(x) ~)
		(x : ~)
		(x : ~x)
		(x : ~1)
		(x : Int~
		(x : Int ~: Int)
		(x : Int ~, y)
		(x : Int->~)
		(x : {a:Int~)
		(x : {a ~= Int})
		(x : {|~Int})
		(x : Int ~x)
		(x : ?~}
		{~
		{~)
		{~| x}
		{~1 = x}
		{~fun = x}
		{~, a = x}
		{~(a) = x}
		{a~
		{a~}
		{a ~: Int}
		{a ~== x}
		{a ~b = x}
		{a =~
		{a = ~}
		{a = ~, b = x}
		{a = ~= x}
		{a = x~
		{a = x~)
		{a = x,~
		{a = x,~}
		{a = x,~, b = x}
		{a = x,~| x}
		{a = x ~; b = x}
		{a = x, b ~:= x | x}
		{a = x, b~}
		{a = x, b = ~}
		{a = x, ~1 = x}
		{a = x |~
		{a = x |~}
		{a = x | ~?}
		{a = x | x~
		{a = x | x~, b = x}
		{a = x | x ~| x}
		{a = x | x~)
		{a = b ~= x}
		{a :=~
		{a := ~| x}
		{a := x~
		{a := x~}
		{a := x~, b := x | x}
		{a := x |~
		{a := x |~}
		{a := x | x~
		{a := x | x~, b = x}
		{a := x | x ~| x}
		{}~}
		fun ~
		fun ~=> x
		fun ~1 => x
		fun ~fun => x
		fun ~{} => x
		fun x~
		fun x ~= x
		fun x ~-> x
		fun x ~, y => x
		fun x ~: Int => x
		fun x ~1 => x
		fun x ~end => x
		fun x =>~
		fun x => ~=> x
		fun x => ~)
		fun (~
		fun (~) => x
		fun (~1 : Int) => x
		fun (~(x) : Int) => x
		fun (x~
		fun (x~) => x
		fun (x ~y : Int) => x
		fun (x :~
		fun (x :~) => x
		fun (x : Int~
		fun (x : Int ~=> x
		fun (x : Int~, y : Int) => x
		fun (x : Int) ~: Int => x
		fun x (y ~=> y) => x
		rec ~
		rec ~=> x
		rec ~(f : Int) x => x
		rec ~rec x => x
		rec f~
		rec f ~=> x
		rec f ~1 => x
		rec f x~
		rec f x ~= x
		rec f x =>~
		rec f (x~) => x
		rec f x ~, y => x
		let ~
		let ~1 = x in x
		let ~(x) = x in x
		let ~let = x in x
		let x~
		let x ~y = x in x
		let x ~:= 1 in x
		let x ~: Int = 1 in x
		let x ~== 1 in x
		let x =~
		let x = ~in x
		let x = 1~
		let x = 1~, y = 2 in x
		let x = 1 ~= 2 in x
		let x = 1 ~then x
		let x = 1 in~
		let x = 1 in ~in
		let x = 1 in x ~in x
		if ~
		if ~then x else y
		if x~
		if x ~else y
		if x {~
		if x then~
		if x then ~else y
		if x then y~
		if x then y ~then z
		if x then y ~in
		if x then y else~
		if x then y else ~else
		if x then y else z ~else x
		case ~
		case ~of end
		case x~
		case x ~end
		case x ~in end
		case x of~
		case x of ~; end
		case x of x~
		case x of ~| a y => y end
		case x of ~@a y => y end
		case x of ~of end
		case x of a~
		case x of a ~=> y end
		case x of a ~(y) => y end
		case x of a y~
		case x of a y ~= y end
		case x of a y ~z => y end
		case x of a y =>~
		case x of a y => ~end
		case x of a y => y~
		case x of a y => y~, b z => z end
		case x of a y => y ~else z => z end
		case x of a y => y b z ~=> z end
		case x of a y => y;~
		case x of a y => y; ~end
		case x of a y => y; ~; b z => z end
		case x of a y => y; else~
		case x of else ~=> x end
		case x of else ~end
		case x of else ~1 => x end
		case x of else ~(y : Int) => x end
		case x of else y ~z => x end
		case x of else y =>~
		case x of else y => ~end
		case x of else y => y~
		case x of else y => y~; end
		case x of else y => y~; a z => z end
		case x of else y => y~; else z => z end
		case x of else y => y ~else z => z end
		case x of end ~end
		true ~: Bool
		true ~= 1
		1 ~= 1
		x # (
		 ~) y
	`)
}

// checkFaultsAtMarks: Syntax where a ~ stands in a line, that itself being no
// part of the text (of two, the first one); a line that ends with # ( goes on.
func checkFaultsAtMarks(t *testing.T, lines string) {
	t.Helper()
	count := 0
	before := ""
	for _, line := range strings.Split(strings.Trim(lines, "\n\t"), "\n") {
		line = before + strings.TrimLeft(line, "\t")
		before = ""
		if strings.HasSuffix(line, "# (") {
			before = line + "\n"
			continue
		}
		at := strings.Index(line, "~")
		checkFault(t, strings.ReplaceAll(line, "~", ""), at, api.Syntax)
		count++
	}
	if count < 200 {
		t.Errorf("%d lines", count)
	}
}
