package parse

import (
	"math/rand/v2"
	"slices"
	"strings"
	"testing"

	"rowan/api"
	"rowan/lexis"
	"rowan/show"
)

// sentence: a text's tokens, its term, and by the numbers of its nodes the numbers of their tokens.
type sentence struct {
	words  []string
	term   api.Term
	places []int
}

// made of tokens and of sentences, the terms of which are its Kids. Its place
// is its first token.
func made(t api.Term, parts ...any) sentence {
	s := sentence{places: []int{0}}
	for _, part := range parts {
		switch part := part.(type) {
		case string:
			s.words = append(s.words, strings.Fields(part)...)
		case sentence:
			for _, at := range part.places {
				s.places = append(s.places, at+len(s.words))
			}
			s.words = append(s.words, part.words...)
			t.Kids = append(t.Kids, part.term)
		}
	}
	s.term = t
	return s
}

// within: a sentence with tokens ahead of it and behind it that play no part.
func within(before string, s sentence, behind string) sentence {
	in := made(api.Term{}, before, s, behind)
	return sentence{in.words, s.term, in.places[1:]}
}

// tokens as rules name them.
func (s sentence) tokens() []string {
	l := slices.Clone(s.words)
	for i, w := range l {
		if lexis.IsWord(w) {
			l[i] = "word"
		} else if w[0] >= '0' && w[0] <= '9' {
			l[i] = "number"
		}
	}
	return l
}

// grower of sentences by the grammar: the same ones each time.
type grower struct{ *rand.Rand }

func newGrower() grower {
	return grower{rand.New(rand.NewPCG(6, 1))}
}

func among[T any](g grower, l ...T) T {
	return l[g.IntN(len(l))]
}

func (g grower) word() string {
	return among(g, "a", "b", "c", "x", "y", "f1")
}

func (g grower) typ() string {
	return among(g, "Int", "Bool", "?", "? -> Int", "( Int -> ? ) -> Bool", "{ }", "{ | ? }", "{ b : Int , a : ? }", "< a : Int , a : Bool | ? >")
}

// sentence of the grammar's e, each e within it one less deep.
func (g grower) sentence(depth int) sentence {
	switch among := g.IntN(8); {
	case depth <= 0 || among > 3:
		left := g.sum(depth)
		if g.IntN(4) > 0 {
			return left
		}
		sign := []string{"<", "=="}[g.IntN(2)]
		return made(named(api.EBin, sign), left, sign, g.sum(depth))
	case among == 0:
		return g.function("fun", api.Term{Op: api.EFun}, depth)
	case among == 1:
		name := g.word()
		return g.function("rec "+name, api.Term{Op: api.ERec, Name: name}, depth)
	case among == 2:
		name := g.word()
		return made(named(api.ELet, name), "let", name, "=", g.sentence(depth-1), "in", g.sentence(depth-1))
	}
	return made(nodeOf(api.EIf), "if", g.sentence(depth-1), "then", g.sentence(depth-1), "else", g.sentence(depth-1))
}

func (g grower) function(before string, t api.Term, depth int) sentence {
	t.Arg = g.word()
	param := t.Arg
	if g.IntN(2) == 0 {
		text := g.typ()
		t = noted(t, text)
		param = "( " + t.Arg + " : " + text + " )"
	}
	if g.IntN(3) == 0 {
		return made(t, before, param, g.function("", api.Term{Op: api.EFun}, depth))
	}
	return made(t, before, param, within("=>", g.sentence(depth-1), ""))
}

func (g grower) sum(depth int) sentence {
	return g.chain(g.prod, depth, "+", "-")
}

func (g grower) prod(depth int) sentence {
	return g.chain(g.app, depth, "*", "/", "%")
}

func (g grower) chain(rule func(depth int) sentence, depth int, signs ...string) sentence {
	s := rule(depth)
	for g.IntN(5) == 0 {
		sign := signs[g.IntN(len(signs))]
		s = made(named(api.EBin, sign), s, sign, rule(depth))
	}
	return s
}

func (g grower) app(depth int) sentence {
	s := g.pre(depth)
	for g.IntN(4) == 0 {
		s = made(nodeOf(api.EApp), s, g.pre(depth))
	}
	return s
}

func (g grower) pre(depth int) sentence {
	label := g.word()
	switch g.IntN(10) {
	case 0:
		return made(named(api.EInj, label), "@", label, g.pre(depth))
	case 1:
		return made(named(api.EEmb, label), "^", label, g.pre(depth))
	}
	s := g.atom(depth)
	for g.IntN(5) == 0 {
		label = g.word()
		if g.IntN(2) == 0 {
			s = made(named(api.ESel, label), s, ".", label)
		} else {
			s = made(named(api.ECut, label), s, "\\", label)
		}
	}
	return s
}

func (g grower) atom(depth int) sentence {
	choice := g.IntN(11)
	if depth <= 0 {
		choice = g.IntN(6)
	}
	switch choice {
	case 0:
		return made(one, "1")
	case 1:
		return made(api.Term{Op: api.EInt, N: 9223372036854775807}, "9223372036854775807")
	case 2:
		return made(api.Term{Op: api.EBool, N: 1}, "true")
	case 3:
		return made(api.Term{Op: api.EBool}, "false")
	case 4:
		return made(none, "{ }")
	case 6:
		return within("(", g.sentence(depth-1), ")")
	case 7:
		text := g.typ()
		return made(noted(nodeOf(api.EAnn), text), "(", g.sentence(depth-1), ":", text, ")")
	case 8:
		return g.fields("{", depth)
	case 9:
		label := g.word()
		return made(named(api.EUpd, label), "{", label, ":=", g.sentence(depth-1), "|", g.sentence(depth-1), "}")
	case 10:
		return g.cases(depth)
	}
	name := g.word()
	return made(api.Term{Op: api.EVar, Name: name}, name)
}

// fields of a record, and all behind them.
func (g grower) fields(before string, depth int) sentence {
	label := g.word()
	var rest sentence
	switch g.IntN(3) {
	case 0:
		rest = made(none, "}")
	case 1:
		rest = within("|", g.sentence(depth-1), "}")
	default:
		rest = within(",", g.fields("", depth), "")
	}
	return made(named(api.EExt, label), before, label, "=", g.sentence(depth-1), rest)
}

func (g grower) cases(depth int) sentence {
	parts := []any{"case", g.sentence(depth - 1), "of"}
	between := ""
	for g.IntN(3) > 0 {
		label, arg := g.word(), g.word()
		arm := made(api.Term{Op: api.EArm, Name: label, Arg: arg}, label, arg, "=>", g.sentence(depth-1))
		parts = append(parts, between, arm)
		between = ";"
	}
	if g.IntN(3) == 0 {
		arg := g.word()
		parts = append(parts, between, made(api.Term{Op: api.EElse, Arg: arg}, "else", arg, "=>", g.sentence(depth-1)))
	}
	return made(nodeOf(api.ECase), append(parts, "end")...)
}

// spread: the text of a sentence, with blanks and remarks here and there, and the places of its tokens.
func (g grower) spread(words []string) (string, []int) {
	var b strings.Builder
	var places []int
	for i, w := range words {
		blank := among(g, "", "", "", " ", "\t", "\r\n", "# def => {\n", " # \u20ac\n ")
		if blank == "" && i > 0 && sticks(words[i-1], w) {
			blank = " "
		}
		b.WriteString(blank)
		places = append(places, b.Len())
		b.WriteString(w)
	}
	return b.String() + among(g, "", "\n", "# the end"), places
}

// sticks: would two tokens be others without a blank between?
func sticks(a, b string) bool {
	l, _, e := lexis.Tokens([]byte(a + b))
	return e != api.OK || len(l) != 3 || l[1].At != len(a)
}

// P6.1, P6.3: whatever the grammar allows is the term that it says, its nodes at their places.
func TestExprOfGrownSentences(t *testing.T) {
	g := newGrower()
	ops := map[api.Op]int{}
	for i := range 1500 {
		s := g.sentence(i % 6)
		if len(s.places) > api.MaxNodes {
			continue
		}
		text, at := g.spread(s.words)
		var want []int
		for _, n := range s.places {
			want = append(want, at[n])
		}
		checkTerm(t, text, s.term)
		checkPlaces(t, text, want...)
		countOps(s.term, ops)
		// Brackets around the whole play no part.
		text, at = g.spread(within("( (", s, ") )").words)
		checkTerm(t, text, s.term)
		for j, n := range s.places {
			want[j] = at[n+2]
		}
		checkPlaces(t, text, want...)
	}
	for op := api.EVar; op <= api.EAnn; op++ {
		if ops[op] < 50 {
			t.Errorf("%d nodes with the Op %d", ops[op], op)
		}
	}
}

func countOps(t api.Term, ops map[api.Op]int) {
	ops[t.Op]++
	for _, k := range t.Kids {
		countOps(k, ops)
	}
}

// The grower's types are types.
func TestGrownTypes(t *testing.T) {
	g := newGrower()
	for range 100 {
		if _, _, e := show.Parse([]byte(g.typ())); e != api.OK {
			t.Error(e)
		}
	}
}
