package prose

import (
	"strings"
	"testing"

	"rowan/api"
)

// tower: a term around another one, and what stands in the text ahead of that
// and behind it; the innermost one, x, has last around it instead. levels is
// the greatest count for which parse doesn't tell Deep; 0: for all.
type tower struct {
	around    func(t api.Term) api.Term
	open, end string
	last      [2]string
	levels    int
}

func (c tower) times(count int) api.Term {
	t := x
	for range count {
		t = c.around(t)
	}
	return t
}

func (c tower) text(count int) string {
	return strings.Repeat(c.open, count-1) + c.last[0] + "x" + c.last[1] + strings.Repeat(c.end, count-1)
}

// plain tower: the innermost one stands as all others do.
func plain(open, end string, levels int, around func(t api.Term) api.Term) tower {
	return tower{around, open, end, [2]string{open, end}, levels}
}

func towers() []tower {
	arm := func(t api.Term) api.Term { return binder(api.EArm, "a", "x", t) }
	return []tower{
		plain("fun y => ", "", 199, func(t api.Term) api.Term { return fun("y", t) }),
		plain("fun (y : Int) => ", "", 199, func(t api.Term) api.Term { return noted(fun("y", t), whole) }),
		plain("rec f y => ", "", 199, func(t api.Term) api.Term { return binder(api.ERec, "f", "y", t) }),
		plain("let y = ", " in 1", 199, func(t api.Term) api.Term { return named(api.ELet, "y", t, one) }),
		plain("let y = 1 in ", "", 199, func(t api.Term) api.Term { return named(api.ELet, "y", one, t) }),
		plain("if ", " then y else 1", 199, func(t api.Term) api.Term { return node(api.EIf, t, y, one) }),
		plain("if y then ", " else 1", 199, func(t api.Term) api.Term { return node(api.EIf, y, t, one) }),
		plain("if y then 1 else ", "", 199, func(t api.Term) api.Term { return node(api.EIf, y, one, t) }),
		plain("", " + y", 0, func(t api.Term) api.Term { return named(api.EBin, "+", t, y) }),
		plain("", " % y", 0, func(t api.Term) api.Term { return named(api.EBin, "%", t, y) }),
		plain("", " y", 0, func(t api.Term) api.Term { return node(api.EApp, t, y) }),
		plain("", ".a", 0, func(t api.Term) api.Term { return named(api.ESel, "a", t) }),
		plain("", "\\a", 0, func(t api.Term) api.Term { return named(api.ECut, "a", t) }),
		plain("@a ", "", 199, func(t api.Term) api.Term { return named(api.EInj, "a", t) }),
		plain("^a ", "", 199, func(t api.Term) api.Term { return named(api.EEmb, "a", t) }),
		plain("{a = ", "}", 199, func(t api.Term) api.Term { return named(api.EExt, "a", t, none) }),
		plain("{a = ", " | y}", 199, func(t api.Term) api.Term { return named(api.EExt, "a", t, y) }),
		plain("{a := ", " | y}", 199, func(t api.Term) api.Term { return named(api.EUpd, "a", t, y) }),
		plain("{a := 1 | ", "}", 199, func(t api.Term) api.Term { return named(api.EUpd, "a", one, t) }),
		plain("case ", " of end", 199, func(t api.Term) api.Term { return node(api.ECase, t) }),
		plain("case y of a x => ", " end", 199, func(t api.Term) api.Term { return node(api.ECase, y, arm(t)) }),
		plain("case y of else x => ", " end", 199, func(t api.Term) api.Term { return node(api.ECase, y, binder(api.EElse, "", "x", t)) }),
		plain("(", " : Int)", 199, func(t api.Term) api.Term { return noted(node(api.EAnn, t), whole) }),
		{func(t api.Term) api.Term { return named(api.EBin, "<", t, y) }, "(", ") < y", [2]string{"", " < y"}, 200},
		{func(t api.Term) api.Term { return named(api.EBin, "==", y, t) }, "y == (", ")", [2]string{"y == ", ""}, 200},
		{func(t api.Term) api.Term { return named(api.EBin, "-", y, t) }, "y - (", ")", [2]string{"y - ", ""}, 200},
		{func(t api.Term) api.Term { return named(api.EBin, "*", y, t) }, "y * (", ")", [2]string{"y * ", ""}, 200},
		{func(t api.Term) api.Term { return node(api.EApp, y, t) }, "y (", ")", [2]string{"y ", ""}, 200},
		{func(t api.Term) api.Term { return node(api.EApp, y, named(api.ESel, "a", t)) }, "y (", ").a", [2]string{"y ", ".a"}, 200},
		{func(t api.Term) api.Term { return named(api.EExt, "a", one, t) }, "a = 1, ", "", [2]string{"{a = 1 | ", "}"}, 0},
	}
}

// P7.1, R1: more levels than the document's bound has.
func TestPrintOfDeepTerms(t *testing.T) {
	const deep = 1<<16 + 1
	for _, c := range towers() {
		want := c.text(deep)
		if c.open == "a = 1, " {
			want = "{" + strings.Repeat(c.open, deep-1) + "a = 1 | x}"
		}
		checkLong(t, c.times(deep), want)
	}
}

// P7.1, R1
func TestPrintOfWideTerms(t *testing.T) {
	const many = 1 << 17
	l := []api.Term{x}
	for range many {
		l = append(l, binder(api.EArm, "a", "y", one))
	}
	checkLong(t, node(api.ECase, l...), "case x of a y => 1"+strings.Repeat("; a y => 1", many-1)+" end")
	row := dynRow
	for range many {
		row = field("a", whole, row)
	}
	checkLong(t, noted(node(api.EAnn, x), typeOf(api.TVnt, row)), "(x : <a:Int"+strings.Repeat(",a:Int", many-1)+"|?>)")
}

func checkLong(t *testing.T, term api.Term, want string) {
	t.Helper()
	if s, e := Print(term); e != api.OK || s != want {
		t.Errorf("Print: %.40q .. of %d bytes, %v; want %.40q .. of %d bytes", s, len(s), e, want, len(want))
	}
}
