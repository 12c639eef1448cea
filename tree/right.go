package tree

import (
	"math"

	"rowan/api"
	"rowan/kinds"
	"rowan/lexis"
)

// sort of a node: what it may be a Kid as.
type sort uint8

const (
	neither sort = iota
	expression
	arm
	other // an else
)

func sortOf(op api.Op) sort {
	switch op {
	case api.EArm:
		return arm
	case api.EElse:
		return other
	}
	if _, there := partsOf(op); there {
		return expression
	}
	return neither
}

// need of a part: may it be there, or must it?
type need uint8

const (
	never need = iota
	perhaps
	always
)

// parts that an Op asks for; all others are zero.
type parts struct {
	name, arg, sign bool  // are there names, or a sign as Name?
	most            int64 // the greatest N
	ann             need
	kids            int // so many expressions
}

// partsOf an Op, if it is a node's. The Kids of an ECase are told elsewhere: kidsFit.
func partsOf(op api.Op) (parts, bool) {
	switch op {
	case api.EVar:
		return parts{name: true}, true
	case api.EInt:
		return parts{most: math.MaxInt64}, true
	case api.EBool:
		return parts{most: 1}, true
	case api.EFun:
		return parts{arg: true, ann: perhaps, kids: 1}, true
	case api.ERec:
		return parts{name: true, arg: true, ann: perhaps, kids: 1}, true
	case api.EApp:
		return parts{kids: 2}, true
	case api.ELet, api.EExt, api.EUpd:
		return parts{name: true, kids: 2}, true
	case api.EIf:
		return parts{kids: 3}, true
	case api.EBin:
		return parts{sign: true, kids: 2}, true
	case api.ENil, api.ECase:
		return parts{}, true
	case api.ESel, api.ECut, api.EInj, api.EEmb:
		return parts{name: true, kids: 1}, true
	case api.EArm:
		return parts{name: true, arg: true, kids: 1}, true
	case api.EElse:
		return parts{arg: true, kids: 1}, true
	case api.EAnn:
		return parts{ann: always, kids: 1}, true
	}
	return parts{}, false
}

// fits: has it what its Op asks for, and nothing else? Of its Kids only the sorts count.
func fits(t *api.Term) bool {
	p, there := partsOf(t.Op)
	return there && nameFits(t.Name, p) && wordFits(t.Arg, p.arg) &&
		t.N >= 0 && t.N <= p.most &&
		annFits(t, p.ann) && kidsFit(t, p.kids)
}

func nameFits(name string, p parts) bool {
	if p.sign {
		return isSign(name)
	}
	return wordFits(name, p.name)
}

func wordFits(s string, asked bool) bool {
	if asked {
		return lexis.IsWord(s)
	}
	return s == ""
}

func isSign(s string) bool {
	switch s {
	case "+", "-", "*", "/", "%", "<", "==":
		return true
	}
	return false
}

func annFits(t *api.Term, n need) bool {
	if t.Has {
		return n != never && kinds.Right(t.Ann) && kinds.Closed(t.Ann)
	}
	return n != always && isZero(&t.Ann)
}

func isZero(t *api.Type) bool {
	return t.Op == 0 && t.Name == "" && t.N == 0 && len(t.Kids) == 0
}

// kidsFit: are the Kids just so many expressions; or, of an ECase, one, any
// arms, and perhaps an else?
func kidsFit(t *api.Term, count int) bool {
	if t.Op != api.ECase {
		return len(t.Kids) == count && allAre(t.Kids, expression)
	}
	if len(t.Kids) == 0 {
		return false
	}
	arms := t.Kids[1:]
	if last := len(arms) - 1; last >= 0 && sortOf(arms[last].Op) == other {
		arms = arms[:last]
	}
	return allAre(t.Kids[:1], expression) && allAre(arms, arm)
}

func allAre(l []api.Term, s sort) bool {
	for i := range l {
		if sortOf(l[i].Op) != s {
			return false
		}
	}
	return true
}
