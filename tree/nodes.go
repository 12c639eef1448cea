package tree

import (
	"iter"

	"rowan/api"
	"rowan/kinds"
)

// place of a node that is still to come.
type place struct {
	level int
	node  *api.Term
}

// nodes of a term by their numbers, each with its level, the whole's being 1.
// A node's Kids are looked up behind the loop's turn with it, so that it may be
// given others. What is still to come is kept in a list, so that a loop may end
// early, and terms that are nested deeply take no deep calls.
func nodes(t *api.Term) iter.Seq2[int, *api.Term] {
	return func(yield func(int, *api.Term) bool) {
		ahead := []place{{1, t}}
		for len(ahead) > 0 {
			last := len(ahead) - 1
			p := ahead[last]
			ahead = ahead[:last]
			if !yield(p.level, p.node) {
				return
			}
			for i := len(p.node.Kids) - 1; i >= 0; i-- {
				ahead = append(ahead, place{p.level + 1, &p.node.Kids[i]})
			}
		}
	}
}

// list of a term's nodes, by their numbers.
func list(t *api.Term) []*api.Term {
	var l []*api.Term
	for _, p := range nodes(t) {
		l = append(l, p)
	}
	return l
}

// alike: are two right nodes, but for what is in their Kids? Where all nodes
// have as many Kids as their partners, so are the trees that they are of.
func alike(a, b *api.Term) bool {
	return a.Op == b.Op && a.Name == b.Name && a.Arg == b.Arg && a.N == b.N &&
		len(a.Kids) == len(b.Kids) &&
		a.Has == b.Has && (!a.Has || kinds.Same(a.Ann, b.Ann))
}

// value: is a right expression one?
func value(t *api.Term) bool {
	ahead := []*api.Term{t}
	for len(ahead) > 0 {
		last := len(ahead) - 1
		p := ahead[last]
		ahead = ahead[:last]
		switch p.Op {
		case api.EFun, api.ERec, api.EInt, api.EBool, api.EVar, api.ENil:
		case api.EInj:
			ahead = append(ahead, &p.Kids[0])
		case api.EExt:
			// Of the values ENil and EExt alone are literals.
			if op := p.Kids[1].Op; op != api.ENil && op != api.EExt {
				return false
			}
			ahead = append(ahead, &p.Kids[0], &p.Kids[1])
		default:
			return false
		}
	}
	return true
}
