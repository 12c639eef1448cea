package prose

import (
	"slices"
	"strconv"
	"strings"

	"rowan/api"
	"rowan/show"
)

// piece of a text: just a text, and behind it that of an expression, if there
// is one, by the rule that is asked for there.
type piece struct {
	text  string
	of    *api.Term
	asked rule
}

// textOf a right expression. What is still to be told is kept in a list, the
// next piece last: terms may be nested deeper than calls.
func textOf(t *api.Term) string {
	var out strings.Builder
	ahead := []piece{{of: t}}
	for len(ahead) > 0 {
		last := len(ahead) - 1
		next := ahead[last]
		ahead = ahead[:last]
		out.WriteString(next.text)
		if next.of == nil {
			continue
		}
		if ruleOf(next.of) < next.asked {
			out.WriteString("(")
			ahead = append(ahead, piece{text: ")"})
		}
		for _, p := range slices.Backward(piecesOf(next.of)) {
			ahead = append(ahead, p)
		}
	}
	return out.String()
}

// piecesOf the text of a right expression, as its rule tells it.
func piecesOf(t *api.Term) []piece {
	switch t.Op {
	case api.EVar:
		return []piece{{text: t.Name}}
	case api.EInt:
		return []piece{{text: strconv.FormatInt(t.N, 10)}}
	case api.EBool:
		return []piece{{text: strconv.FormatBool(t.N == 1)}}
	case api.EFun:
		return []piece{{Words(" ", "fun", param(t), "=> "), &t.Kids[0], expr}}
	case api.ERec:
		return []piece{{Words(" ", "rec", t.Name, param(t), "=> "), &t.Kids[0], expr}}
	case api.ELet:
		return []piece{{Words(" ", "let", t.Name, "= "), &t.Kids[0], expr}, {" in ", &t.Kids[1], expr}}
	case api.EIf:
		return []piece{{"if ", &t.Kids[0], expr}, {" then ", &t.Kids[1], expr}, {" else ", &t.Kids[2], expr}}
	case api.EBin:
		return binary(t)
	case api.EApp:
		return []piece{{"", &t.Kids[0], app}, {" ", &t.Kids[1], pre}}
	case api.EInj:
		return []piece{{"@" + t.Name + " ", &t.Kids[0], pre}}
	case api.EEmb:
		return []piece{{"^" + t.Name + " ", &t.Kids[0], pre}}
	case api.ESel:
		return []piece{{"", &t.Kids[0], post}, {text: "." + t.Name}}
	case api.ECut:
		return []piece{{"", &t.Kids[0], post}, {text: "\\" + t.Name}}
	case api.ENil:
		return []piece{{text: "{}"}}
	case api.EExt:
		return fields(t)
	case api.EUpd:
		return []piece{{"{" + t.Name + " := ", &t.Kids[0], expr}, {" | ", &t.Kids[1], expr}, {text: "}"}}
	case api.ECase:
		return cases(t)
	case api.EAnn:
		return []piece{{"(", &t.Kids[0], expr}, {text: " : " + annotation(t) + ")"}}
	}
	return nil
}

// param of a function, with its annotation, if it has one.
func param(t *api.Term) string {
	if t.Has {
		return "(" + t.Arg + " : " + annotation(t) + ")"
	}
	return t.Arg
}

// annotation of a right expression, which is a right type.
func annotation(t *api.Term) string {
	text, _ := show.Print(t.Ann)
	return text
}

// binary: signs of one rule go from the left, so that to the right a further
// rule is asked for; but < and == stand once, so that it is on both sides.
func binary(t *api.Term) []piece {
	own := ruleOf(t)
	return []piece{{"", &t.Kids[0], max(own, sum)}, {" " + t.Name + " ", &t.Kids[1], own + 1}}
}

// fields of a record that is extended, and of all that it extends, up to what
// is no such one.
func fields(t *api.Term) []piece {
	var l []piece
	before := "{"
	for ; t.Op == api.EExt; t = &t.Kids[1] {
		l = append(l, piece{before + t.Name + " = ", &t.Kids[0], expr})
		before = ", "
	}
	if t.Op != api.ENil {
		l = append(l, piece{" | ", t, expr})
	}
	return append(l, piece{text: "}"})
}

func cases(t *api.Term) []piece {
	l := []piece{{"case ", &t.Kids[0], expr}, {text: " of"}}
	before := " "
	for i := range t.Kids[1:] {
		branch := &t.Kids[1+i]
		l = append(l, piece{before + head(branch), &branch.Kids[0], expr})
		before = "; "
	}
	return append(l, piece{text: " end"})
}

// head of an arm, or of an else.
func head(t *api.Term) string {
	if t.Op == api.EElse {
		return Words(" ", "else", t.Arg, "=> ")
	}
	return Words(" ", t.Name, t.Arg, "=> ")
}
