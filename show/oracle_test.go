package show

import (
	"maps"
	"slices"
	"strings"
	"testing"

	"rowan/api"
	"rowan/lexis"
)

// rules of the chapter's grammar. T is a type, its level ahead of it in digits.
// All ways to go on are tried at once, so no rule need look ahead.
var rules = map[string][]string{
	"A":     {"Int", "Bool", "?", "( T+ )", "{ R }", "< R >"},
	"R":     {"F Tail", "Tail"},
	"F":     {"word : T+", "word : T+ , F"},
	"Tail":  {"", "| ?"},
	"T":     {"A", "A -> T+"},
	"whole": {"T end"},
}

// ahead: what may still come, a symbol behind the other; with the level of the
// type in which the first one stands ahead of each symbol that is no token.
type ahead string

// opened: all ways to go on whose first symbol is a token. deep: is a type too deep come to?
func opened(from map[ahead]bool) (ways map[ahead]bool, deep bool) {
	ways = map[ahead]bool{}
	for a := range from {
		first, rest, _ := strings.Cut(string(a), " ")
		name, level, isRule := strings.Cut(first, "/")
		if !isRule {
			ways[a] = true
			continue
		}
		if name == "T" && len(level) > api.MaxDepth {
			return nil, true
		}
		more := map[ahead]bool{}
		for _, way := range rules[name] {
			more[ahead(strings.TrimSpace(leveled(way, level)+" "+rest))] = true
		}
		more, deep = opened(more)
		if deep {
			return nil, true
		}
		maps.Copy(ways, more)
	}
	return ways, false
}

// leveled: a rule's way, its rules at this level (a stroke for each 1), T+ one further.
func leveled(way, level string) string {
	l := strings.Fields(way)
	for i, s := range l {
		if s == "T+" {
			l[i] = "T/" + level + "1"
		} else if rules[s] != nil {
			l[i] = s + "/" + level
		}
	}
	return strings.Join(l, " ")
}

// then: the ways to go on behind a token.
func then(ways map[ahead]bool, token string) map[ahead]bool {
	next := map[ahead]bool{}
	for a := range ways {
		if first, rest, _ := strings.Cut(string(a), " "); first == token {
			next[ahead(rest)] = true
		}
	}
	return next
}

// told: what reading these tokens tells; of OK the place behind the type.
func told(l []string, level int) (int, api.Code) {
	ways := map[ahead]bool{ahead(leveled("whole", strings.Repeat("1", level))): true}
	for at, token := range append(slices.Clone(l), "end") {
		open, deep := opened(ways)
		if deep {
			return at, api.Deep
		}
		ways = then(open, token)
		if len(ways) == 0 {
			if len(then(open, "end")) > 0 {
				return at, api.OK
			}
			return at, api.Syntax
		}
	}
	return len(l), api.OK
}

// tokensOf names as told takes them: each one's place is its number.
func tokensOf(l []string) []api.Token {
	var out []api.Token
	for at, s := range l {
		kind := api.Sign
		switch s {
		case "word":
			out = append(out, api.Token{Kind: api.Word, Text: "a", At: at})
			continue
		case "1":
			kind, s = api.Number, ""
		}
		out = append(out, api.Token{Kind: kind, Text: s, At: at})
	}
	return append(out, api.Token{Kind: api.End, At: len(l)})
}

func checkTold(t *testing.T, l []string, level int) api.Code {
	t.Helper()
	at, e := told(l, level)
	r := lexis.NewReader(tokensOf(l))
	got, gotAt, gotE := Read(r, level)
	if gotE != e || r.Peek().At != at || gotE != api.OK && gotAt != at || gotE == api.OK && gotAt != 0 {
		t.Errorf("Read of %v, level %d: %d, %v, the reader is at %d; want %d, %v", l, level, gotAt, gotE, r.Peek().At, at, e)
	}
	if (got.Op == 0) != (e != api.OK) {
		t.Errorf("Read of %v, level %d: %s, %v", l, level, dump(got), e)
	}
	return e
}

var anyToken = []string{"Int", "?", "(", ")", "{", "}", "<", ">", "word", ":", ",", "|", "->", "1", "fun"}

// P4.2: all short lists of tokens, as far as they may be the beginning of a type.
func TestReadOfShortLists(t *testing.T) {
	for level, most := range map[int]int{1: 6, 200: 5, 199: 6, 198: 6} {
		count := map[api.Code]int{}
		var grow func(l []string)
		grow = func(l []string) {
			count[checkTold(t, l, level)]++
			at, e := told(l, level)
			stopped := at < len(l) || e == api.Deep
			if stopped || len(l) == most {
				return
			}
			for _, token := range anyToken {
				grow(append(slices.Clone(l), token))
			}
		}
		grow(nil)
		if count[api.OK] < 50 || count[api.Syntax] < 100 || level > 1 && count[api.Deep] < 5 {
			t.Errorf("level %d: %v", level, count)
		}
	}
}

// P4.2: lists that are a type but for one token.
func TestReadOfSpoiledLists(t *testing.T) {
	g := newGrower(true)
	for i := range 1500 {
		l := g.bracketed(g.typ(i % 6))
		for j, s := range l {
			if lexis.IsWord(s) {
				l[j] = "word"
			}
		}
		checkTold(t, l, 1)
		checkTold(t, l, 195+g.IntN(6))
		j := g.IntN(len(l))
		other := anyToken[g.IntN(len(anyToken))]
		checkTold(t, slices.Concat(l[:j], l[j+1:]), 1)
		checkTold(t, slices.Concat(l[:j], []string{other}, l[j:]), 1)
		checkTold(t, slices.Concat(l[:j], []string{other}, l[j+1:]), 195+g.IntN(6))
	}
}
