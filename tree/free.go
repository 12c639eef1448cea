package tree

import "rowan/api"

// search for the free names of a right expression.
type search struct {
	bound map[string]int // how many binders of a name are around
	free  map[string]bool
}

func (s *search) down(t *api.Term) {
	if t.Op == api.EVar && s.bound[t.Name] == 0 {
		s.free[t.Name] = true
	}
	for i := range t.Kids {
		s.bind(t, i, 1)
		s.down(&t.Kids[i])
		s.bind(t, i, -1)
	}
}

// bind: the names that a node binds in one of its Kids are bound by so many more.
func (s *search) bind(t *api.Term, kid, more int) {
	switch t.Op {
	case api.EFun, api.EArm, api.EElse:
		s.bound[t.Arg] += more
	case api.ERec:
		s.bound[t.Name] += more
		s.bound[t.Arg] += more
	case api.ELet:
		if kid == 1 {
			s.bound[t.Name] += more
		}
	}
}
