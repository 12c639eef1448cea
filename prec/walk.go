package prec

import (
	"iter"
	"slices"

	"rowan/api"
	"rowan/kinds"
)

// walk down a tree: itself ahead of its kids, these in order. They are looked up
// behind the loop's turn with what has them, so that it may be given others. What
// is still to come is kept in a list: trees may be nested deeper than calls.
func walk[T any](t *T, kids func(*T) []T) iter.Seq[*T] {
	return func(yield func(*T) bool) {
		ahead := []*T{t}
		for len(ahead) > 0 {
			last := len(ahead) - 1
			p := ahead[last]
			ahead = ahead[:last]
			if !yield(p) {
				return
			}
			l := kids(p)
			for i := len(l) - 1; i >= 0; i-- {
				ahead = append(ahead, &l[i])
			}
		}
	}
}

// parts of a type, or a row.
func parts(t *api.Type) iter.Seq[*api.Type] {
	return walk(t, func(p *api.Type) []api.Type { return p.Kids })
}

// nodes of a term, by their numbers.
func nodes(t *api.Term) iter.Seq[*api.Term] {
	return walk(t, func(p *api.Term) []api.Term { return p.Kids })
}

// loosen a canonical form where it is.
func loosen(t *api.Type, b []byte) {
	number := 0
	for p := range parts(t) {
		if number >= len(b) {
			return
		}
		size := 1
		if b[number]%2 == 1 {
			size = kinds.Size(*p)
			*p = open(p)
		}
		number += size
	}
}

// open: what stands for any type, or row, in the place of one.
func open(t *api.Type) api.Type {
	if isRow(t) {
		return api.Type{Op: api.RDyn}
	}
	return kinds.Dyn()
}

// lessTerm: does one right expression say at least as much as another one? Nodes
// with as many Kids, each with its partner, are of trees of one shape.
func lessTerm(a, b *api.Term) bool {
	return slices.EqualFunc(slices.Collect(nodes(a)), slices.Collect(nodes(b)), lessNode)
}

func lessNode(a, b *api.Term) bool {
	return a.Op == b.Op && a.Name == b.Name && a.Arg == b.Arg && a.N == b.N &&
		len(a.Kids) == len(b.Kids) &&
		a.Has == b.Has && (!a.Has || Less(a.Ann, b.Ann))
}
