package kinds

import (
	"fmt"
	"math"
	"slices"
	"strings"
	"testing"

	"rowan/api"
)

func checkRight(t *testing.T, tree api.Type, right, row bool) {
	t.Helper()
	if got := Right(tree); got != right {
		t.Errorf("Right of %.200s: %v", dump(tree), got)
	}
	if got := Row(tree); got != row {
		t.Errorf("Row of %.200s: %v", dump(tree), got)
	}
}

// P3.1: every Op, with each mix of a Name, an N and Kids, against the chapter's list.
func TestRightByTheParts(t *testing.T) {
	// The sorts of Kids: t and r; of the Op itself behind the colon.
	kidsOf := map[api.Op]string{
		api.TInt: ":t", api.TBool: ":t", api.TDyn: ":t", api.TFun: "tt:t", api.TRec: "r:t", api.TVnt: "r:t", api.TVar: ":t",
		api.RNil: ":r", api.RDyn: ":r", api.RVar: ":r", api.RField: "tr:r",
	}
	kids := map[string][]api.Type{"": nil}
	for range 3 {
		for sorts, l := range kidsOfAllSorts(kids) {
			kids[sorts] = l
		}
	}
	for op := range 256 {
		for _, name := range []string{"", "a", "A", "fun", "a b"} {
			for _, n := range []int{math.MinInt, -1, 0, 1, math.MaxInt} {
				for sorts, l := range kids {
					tree := api.Type{Op: api.Op(op), Name: name, N: n, Kids: l}
					want, sort, _ := strings.Cut(kidsOf[tree.Op], ":")
					isVariable := tree.Op == api.TVar || tree.Op == api.RVar
					ok := sort != "" && sorts == want &&
						(n == 0 || isVariable && n > 0) &&
						(tree.Op == api.RField && name == "a" || tree.Op != api.RField && name == "")
					checkRight(t, tree, ok && sort == "t", ok && sort == "r")
				}
			}
		}
	}
}

// kidsOfAllSorts: each list with one more Kid behind: a type, a row, or what is neither.
func kidsOfAllSorts(kids map[string][]api.Type) map[string][]api.Type {
	more := map[string][]api.Type{}
	for sorts, l := range kids {
		more[sorts+"t"] = append(slices.Clone(l), node(api.TInt))
		more[sorts+"r"] = append(slices.Clone(l), nilRow)
		more[sorts+"-"] = append(slices.Clone(l), api.Type{})
	}
	return more
}

// P3.1
func TestRightOfOrdinaryTypes(t *testing.T) {
	row := field("b", node(api.TInt), field("a", node(api.TRec, field("c", variable(0), dynRow)), field("b", node(api.TDyn), rowVariable(1))))
	checkRight(t, row, false, true)
	checkRight(t, node(api.TRec, row), true, false)
	checkRight(t, node(api.TVnt, row), true, false)
	checkRight(t, node(api.TFun, node(api.TRec, row), node(api.TFun, variable(0), node(api.TBool))), true, false)
	for i, tree := range grown(400) {
		checkRight(t, tree, i%2 == 0, i%2 == 1)
	}
	for _, tree := range wrongTrees() {
		checkRight(t, tree, false, false)
	}
}

// P3.1
func TestRightOfNilAndEmptyKids(t *testing.T) {
	for _, op := range []api.Op{api.TInt, api.TBool, api.TDyn, api.TVar, api.RNil, api.RDyn, api.RVar} {
		isType := op <= api.TVar
		checkRight(t, api.Type{Op: op}, isType, !isType)
		checkRight(t, api.Type{Op: op, Kids: []api.Type{}}, isType, !isType)
	}
}

// P3.1: a field's name is one by lexis.
func TestRightOfNames(t *testing.T) {
	for name, want := range map[string]bool{
		"a": true, "a_1": true, "z9__": true, "int": true, strings.Repeat("x", 32): true,
		"": false, "A": false, "_a": false, "1a": false, "aB": false, "a b": false, "end": false, "Bool": false, "\u00e9": false, "a\xff": false, strings.Repeat("x", 33): false,
	} {
		row := field(name, node(api.TInt), nilRow)
		checkRight(t, row, false, want)
		checkRight(t, node(api.TVnt, field("a", node(api.TRec, row), dynRow)), want, false)
	}
}

// P3.1: one wrong part anywhere makes the whole wrong.
func TestRightOfOneWrongPart(t *testing.T) {
	faults := map[string]func(p *api.Type) bool{
		"an N below 0": func(p *api.Type) bool { p.N = -1; return true },
		"an N":         func(p *api.Type) bool { p.N++; return p.Op != api.TVar && p.Op != api.RVar },
		"a name":       func(p *api.Type) bool { p.Name += "a"; return p.Op != api.RField },
		"no name":      func(p *api.Type) bool { p.Name = ""; return p.Op == api.RField },
		"a wrong name": func(p *api.Type) bool { p.Name = "_"; return true },
		"a type more":  func(p *api.Type) bool { p.Kids = append(p.Kids, node(api.TInt)); return true },
		"a row more":   func(p *api.Type) bool { p.Kids = append(p.Kids, nilRow); return true },
		"a Kid less": func(p *api.Type) bool {
			p.Kids = p.Kids[:max(len(p.Kids)-1, 0)]
			return len(p.Kids) > 0 || p.Op == api.TRec || p.Op == api.TVnt
		},
		"no Op":       func(p *api.Type) bool { p.Op = 0; return true },
		"a term's Op": func(p *api.Type) bool { p.Op = api.EExt; return true },
		"the other sort": func(p *api.Type) bool {
			if p.Op <= api.TVar {
				*p = nilRow
			} else {
				*p = node(api.TInt)
			}
			return true
		},
	}
	good := node(api.TFun, node(api.TRec, field("b", variable(0), field("a", node(api.TDyn), rowVariable(1)))),
		node(api.TFun, node(api.TBool), node(api.TVnt, field("c", node(api.TRec, nilRow), dynRow))))
	for what, f := range faults {
		for i := range size(good) {
			tree := clone(good)
			if p := partAt(&tree, i); f(p) && (i > 0 || what != "the other sort") {
				if Right(tree) || Row(tree) {
					t.Errorf("%s at part %d: %s is right", what, i, dump(tree))
				}
			}
		}
	}
}

// partAt: the n-th part, a part ahead of its Kids.
func partAt(t *api.Type, n int) *api.Type {
	if n == 0 {
		return t
	}
	n--
	for i := range t.Kids {
		if s := size(t.Kids[i]); n < s {
			return partAt(&t.Kids[i], n)
		} else {
			n -= s
		}
	}
	return nil
}

// P3.1: no N of both sorts, wherever the two stand.
func TestRightOfANumberOfBothSorts(t *testing.T) {
	for _, n := range []int{0, 1, math.MaxInt} {
		for _, m := range []int{0, 1, math.MaxInt} {
			ok := n != m
			checkRight(t, field("a", variable(n), rowVariable(m)), false, ok)
			checkRight(t, node(api.TRec, field("a", variable(n), rowVariable(m))), ok, false)
			checkRight(t, node(api.TFun, variable(n), node(api.TVnt, rowVariable(m))), ok, false)
			checkRight(t, node(api.TFun, node(api.TVnt, rowVariable(m)), variable(n)), ok, false)
			checkRight(t, field("a", node(api.TRec, rowVariable(m)), field("b", variable(n), nilRow)), false, ok)
			checkRight(t, node(api.TFun, variable(n), variable(m)), true, false)
			checkRight(t, field("a", node(api.TRec, rowVariable(n)), rowVariable(m)), false, true)
		}
	}
}

// P3.1: of any tree.
func TestSize(t *testing.T) {
	for _, c := range []struct {
		tree api.Type
		want int
	}{
		{api.Type{}, 1},
		{node(api.TInt), 1},
		{node(api.TBool, []api.Type{}...), 1},
		{nilRow, 1},
		{node(api.TRec, nilRow), 2},
		{node(api.TFun, node(api.TInt), node(api.TDyn)), 3},
		{field("a", node(api.TInt), field("a", node(api.TInt), rowVariable(0))), 5},
		{node(api.TVnt, field("a", node(api.TRec, field("b", variable(1), dynRow)), nilRow)), 7},
		{node(api.TInt, api.Type{}, node(api.EVar, nilRow), api.Type{Op: 255, N: -1}), 5},
	} {
		if got := Size(c.tree); got != c.want {
			t.Errorf("Size of %s: %d; want %d", dump(c.tree), got, c.want)
		}
	}
	for _, tree := range append(grown(200), wrongTrees()...) {
		if got := Size(tree); got != size(tree) {
			t.Errorf("Size of %s: %d; want %d", dump(tree), got, size(tree))
		}
	}
}

// P3.1, P3.2: trees that are nested much deeper than the document's bound, to either side.
func TestDeepTrees(t *testing.T) {
	const depth = 1 << 17
	left, right, row := variable(3), variable(3), dynRow
	for i := range depth {
		left = node(api.TFun, left, node(api.TInt))
		right = node(api.TFun, node(api.TInt), right)
		row = field(fmt.Sprint("a", (depth-i)%1000), node(api.TInt), row)
	}
	for _, tree := range []api.Type{left, right} {
		if !Right(tree) || Row(tree) || Size(tree) != 2*depth+1 || Closed(tree) || !Static(tree) {
			t.Errorf("a type of depth %d: %v, %v, %d", depth, Right(tree), Row(tree), Size(tree))
		}
		if !Same(Canon(tree), tree) || !slices.Equal(Vars(Number(tree)), []int{0}) || !Closed(Put(tree, 3, Int())) {
			t.Errorf("a type of depth %d is another one", depth)
		}
	}
	if Same(left, right) {
		t.Error("Same of two deep types")
	}
	if !Row(row) || Size(row) != 2*depth+1 || !Same(Canon(row), row) || Static(row) {
		t.Errorf("a row of %d fields: %v, %d", depth, Row(row), Size(row))
	}
	if l, tail := Flat(row); len(l) != depth || !slices.IsSortedFunc(l, byName) || !Same(Join(l, tail), row) {
		t.Errorf("Flat of %d fields: %d", depth, len(l))
	}
	wrong := api.Type{}
	for range depth {
		wrong = node(api.TRec, wrong)
	}
	if Right(wrong) || Row(wrong) || Size(wrong) != depth+1 || Size(Rec(wrong)) != depth+2 {
		t.Error("a deep tree that is not right")
	}
}

func byName(a, b api.Field) int {
	return strings.Compare(a.Name, b.Name)
}

// P3.1, P3.2, P3.3: trees with more Kids than any Op asks for.
func TestWideTrees(t *testing.T) {
	const width = 1 << 18
	for _, op := range []api.Op{0, api.TInt, api.TFun, api.TRec, api.RField, api.RNil, 255} {
		tree := node(op, make([]api.Type, width)...)
		if Right(tree) || Row(tree) || Size(tree) != width+1 {
			t.Errorf("a tree of width %d: %v, %v, %d", width, Right(tree), Row(tree), Size(tree))
		}
		if Canon(tree).Op != 0 || Number(tree).Op != 0 || Same(tree, tree) || Closed(tree) || Static(tree) || len(Vars(tree)) > 0 {
			t.Errorf("a tree of width %d and Op %d is taken as right", width, op)
		}
		if got := Put(tree, 0, Int()); got.Op != op || len(got.Kids) != width {
			t.Errorf("Put in a tree of width %d and Op %d: %d", width, op, len(got.Kids))
		}
		if got := Fun(tree, tree); Size(got) != 2*width+3 {
			t.Errorf("Fun of trees of width %d: %d", width, Size(got))
		}
	}
}
