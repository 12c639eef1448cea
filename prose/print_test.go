package prose

import (
	"math"
	"strings"
	"testing"

	"rowan/api"
)

// P7.1: the example of the chapter.
func TestTheExample(t *testing.T) {
	checkTold(t, "f(x)+(1*2)", "f x + 1 * 2")
}

// P7.1
func TestPrintOfAtoms(t *testing.T) {
	checkPrint(t, x, "x")
	checkPrint(t, name("fun_1"), "fun_1")
	checkPrint(t, name(strings.Repeat("z", 32)), strings.Repeat("z", 32))
	checkPrint(t, api.Term{Op: api.EInt}, "0")
	checkPrint(t, api.Term{Op: api.EInt, N: 10}, "10")
	checkPrint(t, api.Term{Op: api.EInt, N: math.MaxInt64}, "9223372036854775807")
	checkPrint(t, api.Term{Op: api.EBool, N: 1}, "true")
	checkPrint(t, api.Term{Op: api.EBool}, "false")
	checkPrint(t, none, "{}")
	checkTold(t, "(((x)))", "x")
	checkTold(t, "# one\n( { } )", "{}")
}

// P7.1: of what ends with an expression, which goes as far as it can.
func TestPrintOfWhatEndsWithAnExpression(t *testing.T) {
	checkTold(t, "fun x=>x", "fun x => x")
	checkTold(t, "fun(x:Int)=>(x)", "fun (x : Int) => x")
	checkTold(t, "fun x (y:?->Bool) z=>x<y", "fun x => fun (y : ?->Bool) => fun z => x < y")
	checkTold(t, "rec f x=>f x", "rec f x => f x")
	checkTold(t, "rec f(x:<a:Int>->?)(y:Int)=>f", "rec f (x : <a:Int>->?) => fun (y : Int) => f")
	checkTold(t, "let x=let y=1 in y in let z=x in z", "let x = let y = 1 in y in let z = x in z")
	checkTold(t, "let f=(fun x=>x)in(fun y=>y)", "let f = fun x => x in fun y => y")
	checkTold(t, "if(if a then b else c)then(if d then e else f)else(if g then h else i)", "if if a then b else c then if d then e else f else if g then h else i")
	checkTold(t, "if(a<b)then(c==d)else(fun x=>x)", "if a < b then c == d else fun x => x")
	checkTold(t, "(fun x=>x)+1", "(fun x => x) + 1")
	checkTold(t, "1+(fun x=>x)", "1 + (fun x => x)")
	checkTold(t, "(let x=1 in x)y", "(let x = 1 in x) y")
	checkTold(t, "f(rec g x=>x)", "f (rec g x => x)")
	checkTold(t, "(if a then b else c).d", "(if a then b else c).d")
	checkTold(t, "@a(fun x=>x)", "@a (fun x => x)")
	checkTold(t, "(fun x=>x)<(let y=1 in y)", "(fun x => x) < (let y = 1 in y)")
}

// P7.1: where brackets stand around signs, and where they don't.
func TestPrintOfWhatGoesFromTheLeft(t *testing.T) {
	checkTold(t, "(a+b)-c+d", "a + b - c + d")
	checkTold(t, "a-(b-c)-(d+e)", "a - (b - c) - (d + e)")
	checkTold(t, "((a*b)/c)%d", "a * b / c % d")
	checkTold(t, "a*(b*c)", "a * (b * c)")
	checkTold(t, "(a*b)+(c*d)", "a * b + c * d")
	checkTold(t, "a*(b+c)*d", "a * (b + c) * d")
	checkTold(t, "(a+b)<(c-d)", "a + b < c - d")
	checkTold(t, "(a<b)<c", "(a < b) < c")
	checkTold(t, "a==(b<c)", "a == (b < c)")
	checkTold(t, "(a==b)+(c<d)", "(a == b) + (c < d)")
	checkTold(t, "(f x)*(g y)", "f x * g y")
	checkTold(t, "f(x*y)(a+b)", "f (x * y) (a + b)")
	checkTold(t, "((f x)y)z", "f x y z")
	checkTold(t, "f(x(y z))", "f (x (y z))")
}

// P7.1
func TestPrintOfPres(t *testing.T) {
	checkTold(t, "@a(x)", "@a x")
	checkTold(t, "@a(^b(@c(x)))", "@a ^b @c x")
	checkTold(t, "f(@a x)(^b y)z", "f @a x ^b y z")
	checkTold(t, "@a(x y)", "@a (x y)")
	checkTold(t, "@a((x.b)\\c)", "@a x.b\\c")
	checkTold(t, "(^a x).b", "(^a x).b")
	checkTold(t, "(f x)\\b", "(f x)\\b")
	checkTold(t, "((x.a)\\b).c", "x.a\\b.c")
	checkTold(t, "(1).a", "1.a")
	checkTold(t, "({}).a", "{}.a")
	checkTold(t, "f(x.a)", "f x.a")
	checkTold(t, "(x:Int).a", "(x : Int).a")
	checkTold(t, "@a {b=1}", "@a {b = 1}")
	checkTold(t, "^a(x+1)", "^a (x + 1)")
}

// P7.1: the fields of all EExts stand in one record, as far as they reach.
func TestPrintOfRecords(t *testing.T) {
	checkTold(t, "{a=1}", "{a = 1}")
	checkTold(t, "{a=1|{}}", "{a = 1}")
	checkTold(t, "{a=1|r}", "{a = 1 | r}")
	checkTold(t, "{a=1|{b=2|{a=3|r}}}", "{a = 1, b = 2, a = 3 | r}")
	checkTold(t, "{a=1,b=2|{c:={d=1|{e=2}}|{f=3|{g=4}}}}", "{a = 1, b = 2 | {c := {d = 1, e = 2} | {f = 3, g = 4}}}")
	checkTold(t, "{a={},b={c={d=1}}}", "{a = {}, b = {c = {d = 1}}}")
	checkTold(t, "{a=(fun x=>x)|(if x then y else z)}", "{a = fun x => x | if x then y else z}")
	checkTold(t, "{a:=(x<y)|({b:=1|r})}", "{a := x < y | {b := 1 | r}}")
	checkTold(t, "{a:=1|{b=2}}", "{a := 1 | {b = 2}}")
	checkTold(t, "{a:=1|{}}", "{a := 1 | {}}")
	checkTold(t, "{a=1|({b=2}:?)}", "{a = 1 | ({b = 2} : ?)}")
	checkTold(t, "{a=1|{b=2}.c}", "{a = 1 | {b = 2}.c}")
	checkTold(t, "f{a=1}{}{a:=1|r}", "f {a = 1} {} {a := 1 | r}")
}

// P7.1
func TestPrintOfCases(t *testing.T) {
	checkTold(t, "case(x)of end", "case x of end")
	checkTold(t, "case x of a y=>y end", "case x of a y => y end")
	checkTold(t, "case x of else z=>1 end", "case x of else z => 1 end")
	checkTold(t, "case x of a y=>y;b z=>z;a x=>x end", "case x of a y => y; b z => z; a x => x end")
	checkTold(t, "case x of a y=>(y);else z=>(z)end", "case x of a y => y; else z => z end")
	checkTold(t, "case(case x of end)of a y=>(case y of b z=>z end);else y=>(fun x=>x)end", "case case x of end of a y => case y of b z => z end; else y => fun x => x end")
	checkTold(t, "f(case x of end)(case x of a y=>y end).a", "f case x of end case x of a y => y end.a")
	checkTold(t, "case if a then b else c of a x=>let y=x in y end", "case if a then b else c of a x => let y = x in y end")
	checkTold(t, "case x<y of a y=>y==y end+1", "case x < y of a y => y == y end + 1")
}

// P7.1: annotations are told as in show, sorted.
func TestPrintOfAnnotations(t *testing.T) {
	unsorted := typeOf(api.TRec, field("b", typeOf(api.TFun, typeOf(api.TFun, open, whole), truth), field("a", whole, field("b", truth, dynRow))))
	text := "{a:Int,b:(?->Int)->Bool,b:Bool|?}"
	checkPrint(t, noted(node(api.EAnn, x), unsorted), "(x : "+text+")")
	checkPrint(t, noted(fun("x", y), unsorted), "fun (x : "+text+") => y")
	checkPrint(t, noted(binder(api.ERec, "f", "x", y), unsorted), "rec f (x : "+text+") => y")
	checkTold(t, "((x:Int):?)", "((x : Int) : ?)")
	checkTold(t, "(fun x=>x:?->?)", "(fun x => x : ?->?)")
	checkTold(t, "(x<y:Bool)", "(x < y : Bool)")
	checkTold(t, "f(x:<>)", "f (x : <>)")
	checkTold(t, "(f x:<a:{}|?>->Int)", "(f x : <a:{}|?>->Int)")
}

// P7.1
func TestPrintOfWhatIsNoExpression(t *testing.T) {
	check := func(term api.Term) {
		t.Helper()
		if s, e := Print(term); s != "" || e != api.Form {
			t.Errorf("Print of %.300s: %.300q, %v", dump(term), s, e)
		}
	}
	for _, wrong := range wrongTerms() {
		check(wrong)
		if wrong.Op == api.EArm || wrong.Op == api.EElse {
			check(node(api.ECase, wrong))
			check(fun("x", wrong))
			continue
		}
		for _, term := range around(wrong) {
			check(term)
		}
	}
}

// P7.1, R3: a list of Kids without things may be nil or empty.
func TestPrintOfEmptyLists(t *testing.T) {
	checkPrint(t, api.Term{Op: api.EVar, Name: "x", Kids: []api.Term{}}, "x")
	checkPrint(t, api.Term{Op: api.ENil, Kids: []api.Term{}}, "{}")
	checkPrint(t, noted(node(api.EAnn, api.Term{Op: api.EInt, N: 7, Kids: []api.Term{}}), api.Type{Op: api.TInt, Kids: []api.Type{}}), "(7 : Int)")
}

// P7.1, R4
func TestPrintChangesNothing(t *testing.T) {
	for _, term := range append(grown(600), wrongTerms()...) {
		kept := dump(clone(term))
		first, _ := Print(term)
		if got := dump(term); got != kept {
			t.Errorf("printed, %.300s has become %.300s", kept, got)
		}
		if second, _ := Print(term); second != first {
			t.Errorf("Print: %.300q, and then %.300q", first, second)
		}
	}
}

// P7.1
func TestWords(t *testing.T) {
	for _, c := range []struct {
		between string
		l       []string
		want    string
	}{
		{"-", nil, ""},
		{"-", []string{}, ""},
		{"-", []string{""}, ""},
		{"-", []string{"a"}, "a"},
		{"-", []string{"", ""}, "-"},
		{"-", []string{"a", "b"}, "a-b"},
		{"-", []string{"a", "", "b"}, "a--b"},
		{"-", []string{"", "a", ""}, "-a-"},
		{"", []string{"a", "b", "", "c"}, "abc"},
		{"", nil, ""},
		{", ", []string{"x = 1", "y = 2", "z = 3"}, "x = 1, y = 2, z = 3"},
		{"\xff", []string{"\x00", "\xc3", "\u20ac"}, "\x00\xff\xc3\xff\u20ac"},
		{"-", []string{"-", "-"}, "---"},
	} {
		kept := strings.Clone(strings.Join(c.l, "|"))
		if got := Words(c.between, c.l...); got != c.want {
			t.Errorf("Words of %q, %q: %q; want %q", c.between, c.l, got, c.want)
		}
		if got := strings.Join(c.l, "|"); got != kept {
			t.Errorf("Words has changed its list to %q", got)
		}
	}
	if got := Words(" "); got != "" {
		t.Errorf("Words of nothing: %q", got)
	}
	if got := Words("ab", make([]string, 1001)...); got != strings.Repeat("ab", 1000) {
		t.Errorf("Words of 1001 empty texts has %d bytes", len(got))
	}
}
