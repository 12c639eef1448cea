package parse

import (
	"fmt"
	"slices"
	"strings"
	"testing"

	"rowan/api"
	"rowan/show"
	"rowan/tree"
)

var (
	one  = api.Term{Op: api.EInt, N: 1}
	none = api.Term{Op: api.ENil}
	x    = name("x")
	y    = name("y")
	z    = name("z")
)

func name(s string) api.Term {
	return api.Term{Op: api.EVar, Name: s}
}

func nodeOf(op api.Op, kids ...api.Term) api.Term {
	return api.Term{Op: op, Kids: kids}
}

func named(op api.Op, name string, kids ...api.Term) api.Term {
	return api.Term{Op: op, Name: name, Kids: kids}
}

func app(f, x api.Term) api.Term {
	return nodeOf(api.EApp, f, x)
}

func bin(sign string, left, right api.Term) api.Term {
	return named(api.EBin, sign, left, right)
}

func fun(arg string, body api.Term) api.Term {
	return api.Term{Op: api.EFun, Arg: arg, Kids: []api.Term{body}}
}

func rec(name, arg string, body api.Term) api.Term {
	return api.Term{Op: api.ERec, Name: name, Arg: arg, Kids: []api.Term{body}}
}

func arm(label, arg string, body api.Term) api.Term {
	return api.Term{Op: api.EArm, Name: label, Arg: arg, Kids: []api.Term{body}}
}

func last(arg string, body api.Term) api.Term {
	return api.Term{Op: api.EElse, Arg: arg, Kids: []api.Term{body}}
}

func ext(label string, what, of api.Term) api.Term {
	return named(api.EExt, label, what, of)
}

// noted: with the annotation of this text.
func noted(t api.Term, text string) api.Term {
	ann, _, e := show.Parse([]byte(text))
	if e != api.OK {
		panic(text)
	}
	t.Has, t.Ann = true, ann
	return t
}

func dumpType(t api.Type) string {
	var b strings.Builder
	fmt.Fprintf(&b, "(%d %q %d", t.Op, t.Name, t.N)
	for _, k := range t.Kids {
		b.WriteString(dumpType(k))
	}
	b.WriteString(")")
	return b.String()
}

// dump of a term, part by part: two are alike just if their dumps are.
func dump(t api.Term) string {
	var b strings.Builder
	fmt.Fprintf(&b, "[%d %q %q %d %v %s", t.Op, t.Name, t.Arg, t.N, t.Has, dumpType(t.Ann))
	for _, k := range t.Kids {
		b.WriteString(dump(k))
	}
	b.WriteString("]")
	return b.String()
}

var zero = dump(api.Term{})

// expr of a text that is one. P6.3: it is right, and each of its nodes has a place.
func expr(t *testing.T, text string) (api.Term, []int) {
	t.Helper()
	got, places, at, e := Expr([]byte(text))
	if at != 0 || e != api.OK {
		t.Errorf("Expr of %.200q: %d, %v", text, at, e)
		return got, places
	}
	if !tree.Right(got) {
		t.Errorf("Expr of %.200q isn't right: %.400s", text, dump(got))
	}
	if count := tree.Count(got); count != len(places) {
		t.Errorf("Expr of %.200q: %d nodes, %d places", text, count, len(places))
	}
	return got, places
}

func checkTerm(t *testing.T, text string, want api.Term) {
	t.Helper()
	got, _ := expr(t, text)
	if g, w := dump(got), dump(want); g != w {
		t.Errorf("Expr of %.200q: %.400s; want %.400s", text, g, w)
	}
}

func checkPlaces(t *testing.T, text string, want ...int) {
	t.Helper()
	if _, got := expr(t, text); !slices.Equal(got, want) {
		t.Errorf("Expr of %.200q: %v; want %v", text, got, want)
	}
}

func checkFault(t *testing.T, text string, at int, e api.Code) {
	t.Helper()
	got, places, gotAt, gotE := Expr([]byte(text))
	if gotAt != at || gotE != e || len(places) != 0 || dump(got) != zero {
		t.Errorf("Expr of %.60q (%d bytes): %.200s, %d places, %d, %v; want %d, %v", text, len(text), dump(got), len(places), gotAt, gotE, at, e)
	}
}
