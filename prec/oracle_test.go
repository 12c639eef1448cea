package prec

import (
	"rowan/api"
	"rowan/kinds"
)

// row of the chapter: by name the types of its fields, in their order, and its tail.
type row struct {
	fields map[string][]api.Type
	tail   api.Type
}

func rowOf(t api.Type) row {
	r := row{fields: map[string][]api.Type{}}
	for ; t.Op == api.RField; t = t.Kids[1] {
		r.fields[t.Name] = append(r.fields[t.Name], t.Kids[0])
	}
	r.tail = t
	return r
}

// over: has the first row fields that are left over?
func over(a, b row) bool {
	for name, l := range a.fields {
		if len(l) > len(b.fields[name]) {
			return true
		}
	}
	return false
}

// pairsAre: do the types of all pairs go together?
func pairsAre(a, b row, goes func(a, b api.Type) bool) bool {
	for name, l := range a.fields {
		for i := range min(len(l), len(b.fields[name])) {
			if !goes(l[i], b.fields[name][i]) {
				return false
			}
		}
	}
	return true
}

func isNil(a, b api.Type) bool {
	return a.Op == api.RNil && b.Op == api.RNil
}

func isVariable(a, b api.Type) bool {
	return (a.Op == api.RVar && b.Op == api.RVar || a.Op == api.TVar && b.Op == api.TVar) && a.N == b.N
}

// isBase: are both Int, or Bool, or the same variable?
func isBase(a, b api.Type) bool {
	return a.Op == api.TInt && b.Op == api.TInt || a.Op == api.TBool && b.Op == api.TBool || isVariable(a, b)
}

func slowRowsConsistent(a, b row) bool {
	switch {
	case !pairsAre(a, b, slowConsistent):
		return false
	case over(a, b) && b.tail.Op != api.RDyn:
		return false
	case over(b, a) && a.tail.Op != api.RDyn:
		return false
	}
	return a.tail.Op == api.RDyn || b.tail.Op == api.RDyn || isNil(a.tail, b.tail) || isVariable(a.tail, b.tail)
}

// slowConsistent: by what the chapter says, of right types or right rows.
func slowConsistent(a, b api.Type) bool {
	if kinds.Row(a) {
		return slowRowsConsistent(rowOf(a), rowOf(b))
	}
	if a.Op == api.TDyn || b.Op == api.TDyn || isBase(a, b) {
		return true
	}
	switch {
	case a.Op != b.Op:
		return false
	case a.Op == api.TFun:
		return slowConsistent(a.Kids[0], b.Kids[0]) && slowConsistent(a.Kids[1], b.Kids[1])
	case a.Op == api.TRec || a.Op == api.TVnt:
		return slowRowsConsistent(rowOf(a.Kids[0]), rowOf(b.Kids[0]))
	}
	return false
}

func slowRowsLess(a, b row) bool {
	if !pairsAre(a, b, slowLess) || over(b, a) || over(a, b) && b.tail.Op != api.RDyn {
		return false
	}
	return b.tail.Op == api.RDyn || isNil(a.tail, b.tail) || isVariable(a.tail, b.tail)
}

// slowLess: by what the chapter says, of right types or right rows.
func slowLess(a, b api.Type) bool {
	if kinds.Row(a) {
		return slowRowsLess(rowOf(a), rowOf(b))
	}
	if b.Op == api.TDyn || isBase(a, b) {
		return true
	}
	switch {
	case a.Op != b.Op:
		return false
	case a.Op == api.TFun:
		return slowLess(a.Kids[0], b.Kids[0]) && slowLess(a.Kids[1], b.Kids[1])
	case a.Op == api.TRec || a.Op == api.TVnt:
		return slowRowsLess(rowOf(a.Kids[0]), rowOf(b.Kids[0]))
	}
	return false
}

// numbered bytes: what is left of them, a part's own first.
type numbered struct{ left []byte }

func (n *numbered) odd() bool {
	if len(n.left) == 0 {
		return false
	}
	first := n.left[0]
	n.left = n.left[1:]
	return first&1 == 1
}

// loosened: by what the chapter says, of a canonical form.
func (n *numbered) loosened(t api.Type) api.Type {
	odd := n.odd()
	var kids []api.Type
	for _, k := range t.Kids {
		kids = append(kids, n.loosened(k))
	}
	t.Kids = kids
	switch {
	case odd && kinds.Row(t):
		return dynRow
	case odd:
		return dyn
	}
	return t
}

func slowLoosen(t api.Type, b []byte) api.Type {
	return (&numbered{b}).loosened(kinds.Canon(t))
}

// loosenedTerm: by what the chapter says, of a right expression.
func (n *numbered) loosenedTerm(t api.Term) api.Term {
	if t.Has {
		t.Ann = n.loosened(kinds.Canon(t.Ann))
	}
	var kids []api.Term
	for _, k := range t.Kids {
		kids = append(kids, n.loosenedTerm(k))
	}
	t.Kids = kids
	return t
}

func slowLoosenTerm(t api.Term, b []byte) api.Term {
	return (&numbered{b}).loosenedTerm(t)
}

// slowTerms: by what the chapter says, of right expressions.
func slowTerms(a, b api.Term) bool {
	if a.Op != b.Op || a.Name != b.Name || a.Arg != b.Arg || a.N != b.N || a.Has != b.Has || len(a.Kids) != len(b.Kids) {
		return false
	}
	if a.Has && !slowLess(a.Ann, b.Ann) {
		return false
	}
	for i := range a.Kids {
		if !slowTerms(a.Kids[i], b.Kids[i]) {
			return false
		}
	}
	return true
}
