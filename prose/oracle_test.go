package prose

import (
	"slices"
	"strconv"
	"strings"
	"testing"

	"rowan/api"
	"rowan/show"
)

// row of the chapter's table for a term: its text, with each rule that it asks
// for between two ~, and its own rule; and by order the expressions that are
// told there.
type row struct {
	text, rule string
	of         []api.Term
}

var order = []string{"e", "sum", "prod", "app", "pre", "post", "atom"}

func rowOf(t api.Term) row {
	switch t.Op {
	case api.EVar:
		return row{t.Name, "atom", nil}
	case api.EInt:
		return row{strconv.FormatInt(t.N, 10), "atom", nil}
	case api.EBool:
		return row{[]string{"false", "true"}[t.N], "atom", nil}
	case api.EFun:
		return row{"fun " + paramOf(t) + " => ~e~", "e", t.Kids}
	case api.ERec:
		return row{"rec " + t.Name + " " + paramOf(t) + " => ~e~", "e", t.Kids}
	case api.ELet:
		return row{"let " + t.Name + " = ~e~ in ~e~", "e", t.Kids}
	case api.EIf:
		return row{"if ~e~ then ~e~ else ~e~", "e", t.Kids}
	case api.EBin:
		return map[string]row{
			"<":  {"~sum~ < ~sum~", "e", t.Kids},
			"==": {"~sum~ == ~sum~", "e", t.Kids},
			"+":  {"~sum~ + ~prod~", "sum", t.Kids},
			"-":  {"~sum~ - ~prod~", "sum", t.Kids},
			"*":  {"~prod~ * ~app~", "prod", t.Kids},
			"/":  {"~prod~ / ~app~", "prod", t.Kids},
			"%":  {"~prod~ % ~app~", "prod", t.Kids},
		}[t.Name]
	case api.EApp:
		return row{"~app~ ~pre~", "app", t.Kids}
	case api.EInj:
		return row{"@" + t.Name + " ~pre~", "pre", t.Kids}
	case api.EEmb:
		return row{"^" + t.Name + " ~pre~", "pre", t.Kids}
	case api.ESel:
		return row{"~post~." + t.Name, "post", t.Kids}
	case api.ECut:
		return row{"~post~\\" + t.Name, "post", t.Kids}
	case api.ENil:
		return row{"{}", "atom", nil}
	case api.EExt:
		return extRow(t)
	case api.EUpd:
		return row{"{" + t.Name + " := ~e~ | ~e~}", "atom", t.Kids}
	case api.ECase:
		return caseRow(t)
	}
	return row{"(~e~ : " + typeText(t.Ann) + ")", "atom", t.Kids}
}

func paramOf(t api.Term) string {
	if t.Has {
		return "(" + t.Arg + " : " + typeText(t.Ann) + ")"
	}
	return t.Arg
}

func typeText(t api.Type) string {
	s, _ := show.Print(t)
	return s
}

func extRow(t api.Term) row {
	r := row{rule: "atom"}
	var l []string
	for ; t.Op == api.EExt; t = t.Kids[1] {
		l = append(l, t.Name+" = ~e~")
		r.of = append(r.of, t.Kids[0])
	}
	r.text = "{" + strings.Join(l, ", ") + "}"
	if t.Op != api.ENil {
		r.text = "{" + strings.Join(l, ", ") + " | ~e~}"
		r.of = append(r.of, t)
	}
	return r
}

func caseRow(t api.Term) row {
	r := row{rule: "atom", of: t.Kids[:1:1]}
	var l []string
	for _, k := range t.Kids[1:] {
		label := k.Name
		if k.Op == api.EElse {
			label = "else"
		}
		l = append(l, label+" "+k.Arg+" => ~e~")
		r.of = append(r.of, k.Kids[0])
	}
	r.text = "case ~e~ of end"
	if len(l) > 0 {
		r.text = "case ~e~ of " + strings.Join(l, "; ") + " end"
	}
	return r
}

// told: the text of a right expression, and its rule, by the table.
func told(t api.Term) (string, string) {
	r := rowOf(t)
	l := strings.Split(r.text, "~")
	for i := 1; i < len(l); i += 2 {
		text, rule := told(r.of[i/2])
		if slices.Index(order, rule) < slices.Index(order, l[i]) {
			text = "(" + text + ")"
		}
		l[i] = text
	}
	return strings.Join(l, ""), r.rule
}

func checkByTheTable(t *testing.T, term api.Term) {
	t.Helper()
	want, _ := told(term)
	checkPrint(t, term, want)
}

// P7.1: each Op in each place of each one, against the chapter's table.
func TestPrintOfEachOpInEachPlace(t *testing.T) {
	for levels := range 4 {
		for _, term := range nested(levels) {
			checkByTheTable(t, term)
		}
	}
}

// P7.1: each sign on each side of each one.
func TestPrintOfSigns(t *testing.T) {
	signs := []string{"+", "-", "*", "/", "%", "<", "=="}
	for _, sign := range signs {
		checkPrint(t, named(api.EBin, sign, x, y), "x "+sign+" y")
		for _, other := range signs {
			inner := named(api.EBin, other, one, x)
			checkByTheTable(t, named(api.EBin, sign, inner, y))
			checkByTheTable(t, named(api.EBin, sign, y, inner))
			checkByTheTable(t, named(api.EBin, sign, inner, inner))
		}
	}
}

// P7.1: against the chapter's table, on terms of many shapes.
func TestPrintOfGrownTerms(t *testing.T) {
	ops := map[api.Op]int{}
	for _, term := range grown(4000) {
		checkByTheTable(t, term)
		countOps(term, ops)
	}
	for op := api.EVar; op <= api.EAnn; op++ {
		if ops[op] < 200 {
			t.Errorf("%d nodes with the Op %d", ops[op], op)
		}
	}
}

func countOps(t api.Term, ops map[api.Op]int) {
	ops[t.Op]++
	for _, k := range t.Kids {
		countOps(k, ops)
	}
}
