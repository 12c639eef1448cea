package parse

import (
	"maps"
	"math/rand/v2"
	"slices"
	"strconv"
	"strings"
	"testing"

	"rowan/api"
)

// rules of the chapter's grammar, and of show's. A symbol with + is one level
// further. All ways to go on are tried at once, so no rule need look ahead.
var rules = map[string][]string{
	"E":       {"fun Param Params => E+", "rec word Param Params => E+", "let word = E+ in E+", "if E+ then E+ else E+", "Sum Comp"},
	"Comp":    {"", "< Sum", "== Sum"},
	"Params":  {"", "Param Params"},
	"Param":   {"word", "( word : T+ )"},
	"Sum":     {"Prod Sums"},
	"Sums":    {"", "+ Prod Sums", "- Prod Sums"},
	"Prod":    {"App Prods"},
	"Prods":   {"", "* App Prods", "/ App Prods", "% App Prods"},
	"App":     {"Pre Pres"},
	"Pres":    {"", "Pre Pres"},
	"Pre":     {"@ word Pre+", "^ word Pre+", "Atom Posts"},
	"Posts":   {"", ". word Posts", "\\ word Posts"},
	"Atom":    {"word", "number", "true", "false", "( E+ Bracket", "Record", "case E+ of Case end"},
	"Bracket": {")", ": T+ )"},
	"Record":  {"{ }", "{ Field Fields", "{ word := E+ | E+ }"},
	"Field":   {"word = E+"},
	"Fields":  {"}", "| E+ }", ", Field Fields"},
	"Case":    {"", "Arm Arms", "Last"},
	"Arms":    {"", "; Arm Arms", "; Last"},
	"Arm":     {"word word => E+"},
	"Last":    {"else word => E+"},
	"T":       {"One To"},
	"To":      {"", "-> T+"},
	"One":     {"Int", "Bool", "?", "( T+ )", "{ Row }", "< Row >"},
	"Row":     {"Tail", "Of Ofs Tail"},
	"Of":      {"word : T+"},
	"Ofs":     {"", ", Of Ofs"},
	"Tail":    {"", "| ?"},
}

// ahead: what may still come, a symbol behind the other; those that are no
// token with a stroke and their level behind.
type ahead string

// opened: all ways to go on whose first symbol is a token. deep: is an e, a t,
// or a pre too deep come to?
func opened(from map[ahead]bool) (ways map[ahead]bool, deep bool) {
	ways = map[ahead]bool{}
	for a := range from {
		first, rest, _ := strings.Cut(string(a), " ")
		rule, text, isRule := strings.Cut(first, "'")
		if !isRule {
			ways[a] = true
			continue
		}
		level, _ := strconv.Atoi(text)
		if level > api.MaxDepth {
			return nil, true
		}
		more := map[ahead]bool{}
		for _, way := range rules[rule] {
			more[ahead(strings.TrimSpace(leveled(way, level)+" "+rest))] = true
		}
		more, deep = opened(more)
		if deep {
			return nil, true
		}
		maps.Copy(ways, more)
	}
	return ways, false
}

func leveled(way string, level int) string {
	l := strings.Fields(way)
	for i, s := range l {
		rule, further := strings.CutSuffix(s, "+")
		switch {
		case rules[rule] != nil && further:
			l[i] = rule + "'" + strconv.Itoa(level+1)
		case rules[s] != nil:
			l[i] = s + "'" + strconv.Itoa(level)
		}
	}
	return strings.Join(l, " ")
}

// then: the ways to go on behind a token.
func then(ways map[ahead]bool, token string) map[ahead]bool {
	next := map[ahead]bool{}
	for a := range ways {
		if first, rest, _ := strings.Cut(string(a), " "); first == token {
			next[ahead(rest)] = true
		}
	}
	return next
}

// walk over tokens, by all ways at once.
type walk struct {
	tokens []string
	ways   map[ahead]bool // whose first symbol is a token
	at     int            // the number of the token that is wrong
	code   api.Code       // OK: nothing is wrong up to now
}

func newWalk(tokens ...string) walk {
	w := walk{}
	w.ways, _ = opened(map[ahead]bool{"E'1 $": true})
	for _, token := range tokens {
		w = w.on(token)
	}
	return w
}

// on: with a further token.
func (w walk) on(token string) walk {
	w.tokens = append(slices.Clone(w.tokens), token)
	if w.code != api.OK {
		return w
	}
	next := then(w.ways, token)
	ways, deep := opened(next)
	switch {
	case len(next) == 0:
		w.at, w.code = len(w.tokens)-1, api.Syntax
	case deep:
		w.at, w.code = len(w.tokens), api.Deep
	}
	w.ways = ways
	return w
}

// text of the tokens, with a blank behind each; and the places of the tokens, and of the End.
func (w walk) text() (string, []int) {
	var b strings.Builder
	var places []int
	for _, token := range w.tokens {
		places = append(places, b.Len())
		switch token {
		case "word":
			token = "a"
		case "number":
			token = "1"
		}
		b.WriteString(token + " ")
	}
	return b.String(), append(places, b.Len())
}

// check what Expr tells of the tokens.
func (w walk) check(t *testing.T) api.Code {
	t.Helper()
	end := w.on("$")
	text, places := w.text()
	if end.code == api.OK {
		expr(t, text)
	} else {
		checkFault(t, text, places[end.at], end.code)
	}
	return end.code
}

var anyToken = []string{
	"word", "number", "true", "(", ")", "{", "}", "=", ":=", ":", ",", "|", ";", ".", "\\", "@", "^", "+", "*", "<", "==", "=>", "->", ">",
	"fun", "rec", "let", "in", "if", "then", "else", "case", "of", "end", "Int", "?", "def",
}

// P6.1: all lists of tokens with up to so many behind a beginning, as far as they may be the beginning of an expression.
func TestExprOfShortLists(t *testing.T) {
	for _, c := range []struct {
		begin string
		most  int
	}{
		{"", 4}, {"@ word", 2}, {"word .", 2}, {"word < word", 3}, {"word + word", 3}, {"( word", 3}, {"( word : {", 3},
		{"fun word", 3}, {"fun ( word : Int", 3}, {"rec word word", 2}, {"let word = word", 2}, {"let word = word in word", 2},
		{"if word", 2}, {"if word then word", 2}, {"if word then word else word", 2},
		{"{ word = word", 3}, {"{ word = word , word", 3}, {"{ word = word | word", 2}, {"{ word := word", 3}, {"{ word := word | word", 2},
		{"case word of", 3}, {"case word of word word => word", 3}, {"case word of word word => word ;", 3}, {"case word of else word => word", 2},
		{"{ word = case word of word word => fun word => ( word", 2}, {"( case word of end", 2},
		{strings.Repeat("( ", 198), 3}, {strings.Repeat("( ", 199), 3}, {strings.Repeat("@ word ", 198), 3}, {strings.Repeat("( ", 100) + strings.Repeat("^ word ", 99), 3},
		{strings.Repeat("fun word => ", 197) + "{ word =", 3}, {strings.Repeat("if ", 198) + "@ word", 3},
	} {
		count := map[api.Code]int{}
		var grow func(w walk, most int)
		grow = func(w walk, most int) {
			count[w.check(t)]++
			if w.code != api.OK || most == 0 {
				return
			}
			for _, token := range anyToken {
				grow(w.on(token), most-1)
			}
		}
		grow(newWalk(strings.Fields(c.begin)...), c.most)
		if count[api.Syntax] < 10 || c.begin == "" && count[api.OK] < 50 || strings.HasSuffix(c.begin, "( ") && count[api.Deep] < 10 {
			t.Errorf("%.60q: %v", c.begin, count)
		}
	}
}

// P6.1: grown expressions that are spoiled in one token.
func TestExprOfSpoiledLists(t *testing.T) {
	g := newGrower()
	for i := range 1200 {
		l := g.sentence(i % 5).tokens()
		if len(l) > 60 {
			continue
		}
		newWalk(l...).check(t)
		j := g.IntN(len(l))
		other := anyToken[g.IntN(len(anyToken))]
		newWalk(slices.Concat(l[:j], l[j+1:])...).check(t)
		newWalk(slices.Concat(l[:j], []string{other}, l[j:])...).check(t)
		newWalk(slices.Concat(l[:j], []string{other}, l[j+1:])...).check(t)
		newWalk(l[:j]...).check(t)
	}
}

// P6.1: levels of grown expressions that stand deep in others.
func TestExprOfDeepLists(t *testing.T) {
	g := newGrower()
	count := map[api.Code]int{}
	for i := range 90 {
		l := g.sentence(i % 6).tokens()
		if len(l) > 60 {
			continue
		}
		begin := strings.Fields(strings.Repeat("( ", 180))
		for range 10 + g.IntN(10) {
			begin = append(begin, strings.Fields(among(g, "(", "@ word (", "fun word =>", "{ word =", "case", "if word then"))...)
		}
		count[newWalk(slices.Concat(begin, l)...).check(t)]++
	}
	if count[api.Deep] < 10 || count[api.Syntax] < 10 {
		t.Errorf("%v", count)
	}
}

// R1: lists without any order.
func TestExprOfTokensByChance(t *testing.T) {
	r := rand.New(rand.NewPCG(6, 2))
	for range 3000 {
		w := walk{}
		w.ways, _ = opened(map[ahead]bool{"E'1 $": true})
		for range r.IntN(12) {
			// Mostly one that can stand there.
			token := anyToken[r.IntN(len(anyToken))]
			for _, a := range slices.Sorted(maps.Keys(w.ways)) {
				if first, _, _ := strings.Cut(string(a), " "); first != "$" && r.IntN(8) == 0 {
					token = first
				}
			}
			w = w.on(token)
		}
		w.check(t)
	}
}
