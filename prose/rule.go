package prose

import "rowan/api"

// rule of parse's grammar. What is told by a further one may stand where an
// earlier one is asked for, as it is.
type rule uint8

const (
	expr rule = iota
	sum
	prod
	app
	pre
	post
	atom
)

// ruleOf a right expression: the one by which it is told.
func ruleOf(t *api.Term) rule {
	switch t.Op {
	case api.EFun, api.ERec, api.ELet, api.EIf:
		return expr
	case api.EBin:
		return ruleOfSign(t.Name)
	case api.EApp:
		return app
	case api.EInj, api.EEmb:
		return pre
	case api.ESel, api.ECut:
		return post
	}
	return atom
}

func ruleOfSign(sign string) rule {
	switch sign {
	case "+", "-":
		return sum
	case "*", "/", "%":
		return prod
	}
	return expr
}
