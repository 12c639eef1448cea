package kinds

import (
	"iter"
	"slices"
	"strings"

	"rowan/api"
	"rowan/lexis"
)

// sort of a part: what it may be a Kid as.
type sort uint8

const (
	neither sort = iota
	types
	rows
)

func sortOf(op api.Op) sort {
	switch op {
	case api.TInt, api.TBool, api.TDyn, api.TFun, api.TRec, api.TVnt, api.TVar:
		return types
	case api.RNil, api.RDyn, api.RVar, api.RField:
		return rows
	}
	return neither
}

func isVar(op api.Op) bool {
	return op == api.TVar || op == api.RVar
}

// parts of a tree, a part ahead of its Kids, these in order. A part's Kids are
// looked up behind the loop's turn with it, so that it may be given others.
// What is still to come is kept in a list: trees may be nested deeper than calls.
func parts(t *api.Type) iter.Seq[*api.Type] {
	return func(yield func(*api.Type) bool) {
		ahead := []*api.Type{t}
		for len(ahead) > 0 {
			last := len(ahead) - 1
			p := ahead[last]
			ahead = ahead[:last]
			if !yield(p) {
				return
			}
			for i := len(p.Kids) - 1; i >= 0; i-- {
				ahead = append(ahead, &p.Kids[i])
			}
		}
	}
}

// sound: is each part what its Op asks for, and no number of both sorts?
func sound(t api.Type) bool {
	ops := map[int]api.Op{}
	for p := range parts(&t) {
		if !fits(*p) {
			return false
		}
		if !isVar(p.Op) {
			continue
		}
		if op, there := ops[p.N]; there && op != p.Op {
			return false
		}
		ops[p.N] = p.Op
	}
	return true
}

// fits: has it what its Op asks for, and nothing else? Of its Kids only the sorts count.
func fits(t api.Type) bool {
	switch t.Op {
	case api.TInt, api.TBool, api.TDyn, api.RNil, api.RDyn:
		return t.Name == "" && t.N == 0 && kidsAre(t)
	case api.TVar, api.RVar:
		return t.Name == "" && t.N >= 0 && kidsAre(t)
	case api.TFun:
		return t.Name == "" && t.N == 0 && kidsAre(t, types, types)
	case api.TRec, api.TVnt:
		return t.Name == "" && t.N == 0 && kidsAre(t, rows)
	case api.RField:
		return lexis.IsWord(t.Name) && t.N == 0 && kidsAre(t, types, rows)
	}
	return false
}

// kidsAre: are its Kids just so many, and of these sorts?
func kidsAre(t api.Type, sorts ...sort) bool {
	return slices.EqualFunc(t.Kids, sorts, func(kid api.Type, s sort) bool {
		return sortOf(kid.Op) == s
	})
}

// has: has a part one of these Ops?
func has(t api.Type, ops ...api.Op) bool {
	for p := range parts(&t) {
		if slices.Contains(ops, p.Op) {
			return true
		}
	}
	return false
}

// alike: are two parts alike, but for their Kids?
func alike(a, b *api.Type) bool {
	return a.Op == b.Op && a.Name == b.Name && a.N == b.N
}

// copied: the same tree, right or not, in new memory.
func copied(t api.Type) api.Type {
	for p := range parts(&t) {
		p.Kids = append([]api.Type(nil), p.Kids...)
	}
	return t
}

// canon: the canonical form of what is right, in new memory.
func canon(t api.Type) api.Type {
	t = sorted(copied(t))
	for p := range parts(&t) {
		if p.Op == api.TRec || p.Op == api.TVnt {
			p.Kids[0] = sorted(p.Kids[0])
		}
	}
	return t
}

// sorted: a right row whose own fields are sorted; a type as it is.
func sorted(row api.Type) api.Type {
	return join(flat(row))
}

// flat: a right row's sorted fields, and its tail; of a type none, and itself.
func flat(row api.Type) ([]api.Field, api.Type) {
	var l []api.Field
	for row.Op == api.RField {
		l = append(l, api.Field{Name: row.Name, Type: row.Kids[0]})
		row = row.Kids[1]
	}
	slices.SortStableFunc(l, func(a, b api.Field) int {
		return strings.Compare(a.Name, b.Name)
	})
	return l, row
}

// join: the row of these fields, in this order, and this tail; its parts aren't copied.
func join(l []api.Field, tail api.Type) api.Type {
	for _, f := range slices.Backward(l) {
		tail = api.Type{Op: api.RField, Name: f.Name, Kids: []api.Type{f.Type, tail}}
	}
	return tail
}

// vars: the numbers of variables, by where they come first, each once.
func vars(t api.Type) []int {
	var l []int
	seen := map[int]bool{}
	for p := range parts(&t) {
		if isVar(p.Op) && !seen[p.N] {
			seen[p.N] = true
			l = append(l, p.N)
		}
	}
	return l
}
