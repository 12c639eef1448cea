package parse

import (
	"strings"
	"testing"

	"rowan/api"
)

// nest: what opens a further level, and what closes it, around the place of an
// e (or t); and how far on in the one the first e or t of that level begins.
type nest struct {
	open, end string
	at        int
}

// nests: of an e within another one.
var nests = []nest{
	{"(", ")", 1},
	{"fun x => ", "", 9},
	{"fun x y (z : Int) => ", "", 13},
	{"rec f x => ", "", 11},
	{"let x = ", " in x", 8},
	{"let x = y in ", "", 8},
	{"if ", " then x else y", 3},
	{"if x then ", " else y", 3},
	{"if x then y else ", "", 3},
	{"{a = ", "}", 5},
	{"{a = x, b = ", "}", 5},
	{"{a = x, b = y, c = ", " | z}", 5},
	{"{a = x | ", "}", 5},
	{"{a := ", " | x}", 6},
	{"{a := x | ", "}", 6},
	{"case ", " of end", 5},
	{"case x of a y => ", " end", 5},
	{"case x of a y => y; b z => ", "; c x => x end", 5},
	{"case x of a y => y; else z => ", " end", 5},
	{"case x of else z => ", " end", 5},
	{"(", " : Int)", 1},
	{"x (", ")", 3},
	{"x + (", ") * y", 5},
	{"x.a < (", ").b", 7},
}

// typeNests: of a t within an e.
var typeNests = []nest{
	{"(x : ", ")", 1},
	{"fun (x : ", ") => x", 9},
	{"fun x (y : ", ") => x", 11},
	{"rec f (x : ", ") => x", 11},
	{"rec f x (y : ", ") => x", 13},
}

func (n nest) times(count int, inner string) string {
	return strings.Repeat(n.open, count) + inner + strings.Repeat(n.end, count)
}

// P6.1: 200 levels are parsed, one more isn't.
func TestLevelsOfExpressions(t *testing.T) {
	for _, n := range nests {
		for _, inner := range []string{"x", "x y + 1 < {}", "x.a"} {
			expr(t, n.times(199, inner))
			checkFault(t, n.times(200, inner), 199*len(n.open)+n.at, api.Deep)
		}
		for _, other := range nests {
			expr(t, n.times(198, other.times(1, "x")))
			checkFault(t, n.times(199, other.times(1, "x")), 199*len(n.open)+other.at, api.Deep)
		}
	}
}

// P6.1: a t is one level further than the e in which it stands, and goes on as show says.
func TestLevelsOfTypes(t *testing.T) {
	for _, n := range nests {
		for _, of := range typeNests {
			at := 198*len(n.open) + len(of.open)
			expr(t, n.times(198, of.times(1, "Int")))
			checkFault(t, n.times(198, of.times(1, "(Int)")), at+1, api.Deep)
			checkFault(t, n.times(198, of.times(1, "Int->Int")), at+5, api.Deep)
			checkFault(t, n.times(199, of.times(1, "Int")), 199*len(n.open)+of.at, api.Deep)
		}
	}
	for _, of := range typeNests {
		expr(t, of.times(1, nests[0].times(198, "Int")))
		checkFault(t, of.times(1, nests[0].times(199, "Int")), len(of.open)+199, api.Deep)
	}
}

// P6.1: what is behind @ and ^ is one level further, and all in it.
func TestLevelsOfPres(t *testing.T) {
	for _, pre := range []string{"@a ", "^a ", "@a ^b"} {
		signs := len(strings.Fields(pre))
		for count := range 199/signs + 1 {
			rest := 199 - count*signs // levels further than that of the pre within
			open := strings.Repeat(pre+" ", count)
			for _, n := range nests[:3] {
				if rest == 0 {
					checkFault(t, open+"(x)", len(open)+1, api.Deep)
					continue
				}
				expr(t, open+"("+n.times(rest-1, "x")+")")
				checkFault(t, open+"("+n.times(rest, "x")+")", len(open)+1+(rest-1)*len(n.open)+n.at, api.Deep)
			}
		}
	}
	signs := strings.Repeat("@a ", 199)
	expr(t, signs+"x")
	expr(t, signs+"x.a\\b y z + x")
	expr(t, signs+"{}")
	expr(t, "x "+signs+"x "+signs+"x")
	checkFault(t, signs+"@a x", 600, api.Deep)
	checkFault(t, signs+"^a x", 600, api.Deep)
	checkFault(t, signs+"{a = x}", 602, api.Deep)
	checkFault(t, signs+"(x)", 598, api.Deep)
	checkFault(t, signs+"case x of end", 602, api.Deep)
	checkFault(t, "("+signs+"x)", 598, api.Deep)
	checkFault(t, "(x "+signs+"x)", 600, api.Deep)
	// An annotation within is further, too; what stands behind the pre isn't.
	few := strings.Repeat("^a ", 197)
	expr(t, few+"(x : Int)")
	expr(t, few+"(x : Int->Int)")
	checkFault(t, few+"(x : Int->?->?)", len(few)+13, api.Deep)
	checkFault(t, few+"(x : ((Int)))", len(few)+7, api.Deep)
	checkFault(t, "@a "+few+"@a (x : Int)", len(few)+7, api.Deep)
	expr(t, few+"x "+nests[0].times(199, "y"))
	expr(t, "(@a "+few+"x) + (@a "+few+"x).a")
}

// P6.1: Deep is told when it is come to, whatever stands there; what is ahead of it comes first.
func TestDeepWhenItIsComeTo(t *testing.T) {
	for _, n := range nests {
		if n.at < len(n.open) {
			continue
		}
		open := strings.Repeat(n.open, 199)
		at := len(strings.TrimRight(open, " "))
		checkFault(t, open, len(open), api.Syntax)
		checkFault(t, open+")", len(open), api.Syntax)
		checkFault(t, open+n.open, len(open)+len(n.open), api.Deep)
		checkFault(t, open+n.open+"\n)", len(open)+len(n.open)+1, api.Deep)
		checkFault(t, open+n.open+" fun fun", len(open)+len(n.open)+1, api.Deep)
		checkFault(t, open[:at]+" fun x => = y", at+10, api.Deep)
		checkFault(t, open[:at]+" fun x = y", at+7, api.Syntax)
		checkFault(t, open+"{}=", len(open)+2, api.Syntax)
		checkFault(t, open+"{a}", len(open)+2, api.Syntax)
		checkFault(t, open+"{a=}", len(open)+3, api.Deep)
		checkFault(t, open+"case", len(open)+4, api.Deep)
		checkFault(t, open+"x @a", len(open)+4, api.Deep)
		checkFault(t, open+"x @1", len(open)+3, api.Syntax)
		checkFault(t, open+"x < y < z", len(open)+6, api.Syntax)
		checkFault(t, open+"fun (x) (y : (Int)) => z", len(open)+6, api.Syntax)
		checkFault(t, open+"fun (x : ", len(open)+9, api.Deep)
	}
	deep := strings.Repeat("(", 200)
	checkFault(t, "x ) "+deep, 2, api.Syntax)
	checkFault(t, deep+"x ) )", 200, api.Deep)
	checkFault(t, "{a = 1 b = "+deep, 9, api.Syntax)
	checkFault(t, "{a = "+deep+"x b =", 204, api.Deep)
	checkFault(t, strings.Repeat("x ", 6000)+deep, 12200, api.Deep)
}

// P6.1: what stands beside each other is of one level.
func TestLevelsOfWhatStandsBesideEachOther(t *testing.T) {
	inner := nests[0].times(198, "x")
	for _, text := range []string{
		"~ ~ ~", "~ + ~ - ~ < ~", "~.a\\b * ~", "@a ~", "~ @a ~ ^b ~", "{a = ~, b = ~ | ~}", "{a := ~ | ~}", "let x = ~ in ~", "if ~ then ~ else ~",
		"case ~ of a y => ~; b y => ~; else y => ~ end", "fun (x : ?->?) (y : ?) => ~", "(~ : ?)",
	} {
		expr(t, strings.ReplaceAll(text, "~", inner))
	}
	checkFault(t, "@a ("+inner+")", 3+199, api.Deep)
	checkFault(t, inner+" (("+inner+"))", len(inner)+1+200, api.Deep)
	checkFault(t, "{a = "+inner+", b = ("+inner+")}", len(inner)+11+199, api.Deep)
	checkFault(t, "{a = "+inner+" | ("+inner+")}", len(inner)+8+199, api.Deep)
}

// longs: what has as many nodes as one asks for: some, and so many more each time.
var longs = []struct {
	first, more, last string
	some, each        int
}{
	{"x", " y", "", 1, 2},
	{"1", "+1", "", 1, 2},
	{"1", "*1", "", 1, 2},
	{"x", ".a", "", 1, 1},
	{"(x)", "\\a", "", 1, 1},
	{"fun x", " y", "=> x", 2, 1},
	{"fun x", "(y:?)", "=> x", 2, 1},
	{"rec f x", " y", "=> x", 2, 1},
	{"{a=1", ",b=2", "}", 3, 2},
	{"{a=1", ",b=2", "|x}", 3, 2},
	{"case x of a y=>1", ";b y=>1", " end", 4, 2},
	{"x", "(y)", "", 1, 2},
	{"x", " @a ^b y", "", 1, 4},
	{"x", "{}", "", 1, 2},
	{"x", "-(1:Int)", "", 1, 3},
}

// P6.1: 5000 nodes are told, one more isn't, and that comes last.
func TestLarge(t *testing.T) {
	for _, l := range longs {
		for further := range l.each {
			// With some fun x => around, each number of nodes can be met.
			around := strings.Repeat("fun x =>", further)
			count := (api.MaxNodes - l.some - further) / l.each
			for ; ; count++ {
				text := around + l.first + strings.Repeat(l.more, count) + l.last
				nodes := l.some + l.each*count + further
				if nodes > api.MaxNodes {
					checkFault(t, text, 0, api.Large)
					checkFault(t, text+" )", len(text)+1, api.Syntax)
					checkFault(t, text+" !", len(text)+1, api.Strange)
					break
				}
				if _, places := expr(t, text); len(places) != nodes {
					t.Errorf("Expr of %.30q: %d nodes; want %d", text, len(places), nodes)
				}
			}
		}
		count := (api.MaxSource - len(l.first) - len(l.last)) / len(l.more)
		checkFault(t, l.first+strings.Repeat(l.more, count)+l.last, 0, api.Large)
	}
	expr(t, strings.Repeat("((((((((((x)))))))))) + ", 2499)+"y")
}
