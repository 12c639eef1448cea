package show

import (
	"math"
	"slices"
	"strings"
	"testing"

	"rowan/api"
	"rowan/lexis"
)

func checkParse(t *testing.T, text string, want api.Type) {
	t.Helper()
	got, at, e := Parse([]byte(text))
	if at != 0 || e != api.OK || dump(got) != dump(want) {
		t.Errorf("Parse of %.200q: %.200s, %d, %v; want %.200s", text, dump(got), at, e, dump(want))
	}
}

func checkFault(t *testing.T, text string, at int, e api.Code) {
	t.Helper()
	got, gotAt, gotE := Parse([]byte(text))
	if gotAt != at || gotE != e || dump(got) != dump(api.Type{}) {
		t.Errorf("Parse of %.60q: %.200s, %d, %v; want %d, %v", text, dump(got), gotAt, gotE, at, e)
	}
}

// P4.2
func TestParseOfTheGrammar(t *testing.T) {
	for text, want := range map[string]api.Type{
		"Int":                    whole,
		"Bool":                   truth,
		"?":                      open,
		"(Int)":                  whole,
		"(((?)))":                open,
		"Int->Bool":              function(whole, truth),
		"Int->Bool->?":           function(whole, function(truth, open)),
		"(Int->Bool)->?":         function(function(whole, truth), open),
		"Int->(Bool->?)":         function(whole, function(truth, open)),
		"((Int)->(Bool))":        function(whole, truth),
		"{}":                     record(nilRow),
		"<>":                     variant(nilRow),
		"{|?}":                   record(dynRow),
		"<|?>":                   variant(dynRow),
		"{a:Int}":                record(field("a", whole, nilRow)),
		"<a:Int|?>":              variant(field("a", whole, dynRow)),
		"{a:Int,b:Bool}":         record(field("a", whole, field("b", truth, nilRow))),
		"{a:Int->Bool,b:(?)|?}":  record(field("a", function(whole, truth), field("b", open, dynRow))),
		"<a:{},b:<|?>>":          variant(field("a", record(nilRow), field("b", variant(dynRow), nilRow))),
		"<a:<b:<>>>-><>":         function(variant(field("a", variant(field("b", variant(nilRow), nilRow)), nilRow)), variant(nilRow)),
		"{}->{}":                 function(record(nilRow), record(nilRow)),
		"{int:Int,bool:Bool}":    record(field("bool", truth, field("int", whole, nilRow))),
		"  Int # the end":        whole,
		"{ b:Int, a : ?->Bool|?": {},
	} {
		if want.Op == 0 {
			checkFault(t, text, len(text), api.Syntax)
		} else {
			checkParse(t, text, want)
		}
	}
}

// P4.2: what is told is canonical.
func TestParseSortsFields(t *testing.T) {
	checkParse(t, "{b:Int,a:Bool}", record(field("a", truth, field("b", whole, nilRow))))
	checkParse(t, "<b:?,a:Bool,b:Int,a:?|?>", variant(field("a", truth, field("a", open, field("b", open, field("b", whole, dynRow))))))
	inner := record(field("c", whole, field("d", truth, nilRow)))
	checkParse(t, "{z:{d:Bool,c:Int}->{d:Bool,c:Int},a:({d:Bool,c:Int})}", record(field("a", inner, field("z", function(inner, inner), nilRow))))
}

// P4.1, P4.2: the example of the chapter.
func TestTheExample(t *testing.T) {
	text := "{ b:Int, a : ?->Bool | ? }"
	want := record(field("a", function(open, truth), field("b", whole, dynRow)))
	checkParse(t, text, want)
	checkPrint(t, want, "{a:?->Bool,b:Int|?}")
}

// P4.2
func TestParseTellsTheFirstTokenThatCantStandThere(t *testing.T) {
	for _, c := range []struct {
		text string
		at   int
	}{
		{"", 0}, {" # \n ", 5}, {")", 0}, {"->", 0}, {"x", 0}, {"1", 0}, {" fun", 1}, {"|", 0}, {"}", 0}, {">", 0}, {"=", 0},
		{"Int Int", 4}, {"Int)", 3}, {"Int ?", 4}, {"Int{}", 3}, {"Int x", 4}, {"Int->", 5}, {"Int-> ", 6}, {"Int->->", 5}, {"Int=>Int", 3}, {"Int-Int", 3}, {"Int- >Int", 3}, {"?->)", 3}, {"?? ", 1},
		{"(", 1}, {"()", 1}, {"(Int", 4}, {"(Int}", 4}, {"(Int,Int)", 4}, {"(Int->)", 6}, {"(Int))", 5}, {"(a:Int)", 1},
		{"{", 1}, {"{a", 2}, {"{a:", 3}, {"{a:}", 3}, {"{a}", 2}, {"{a:Int", 6}, {"{a Int}", 3}, {"{a=Int}", 2}, {"{a:=Int}", 2}, {"{a:Int,}", 7}, {"{a:Int,,b:?}", 7}, {"{a:Int b:?}", 7}, {"{,a:Int}", 1},
		{"{Int}", 1}, {"{Int:Int}", 1}, {"{fun:Int}", 1}, {"{1:Int}", 1}, {"{(a):Int}", 1}, {"{?}", 1}, {"{a:x}", 3},
		{"{|}", 2}, {"{|", 2}, {"{|Int}", 2}, {"{|a:Int}", 2}, {"{|?", 3}, {"{|?,a:Int}", 3}, {"{|?|?}", 3}, {"{|??}", 3}, {"{|?->?}", 3}, {"{a:Int|}", 7}, {"{a:Int,|?}", 7}, {"{a:Int|?,b:Int}", 8}, {"{a:Int||?}", 7}, {"{a:Int|?", 8},
		{"{>", 1}, {"<}", 1}, {"{a:Int>", 6}, {"<a:Int}", 6}, {"<|?}", 3}, {"{|?>", 3}, {"{a:Int)", 6}, {"<a:<b:Int>", 10}, {"<<>>", 1}, {"{{}}", 1}, {"{}{}", 2},
		{"<a:Int->Int,b:Int->>", 19}, {"{a:(Int}", 7}, {"Int.a", 3}, {"Int\n\n  Bool", 7}, {"# \u00e9\n{a:Int b", 12},
	} {
		checkFault(t, c.text, c.at, api.Syntax)
	}
}

// P4.2: Tokens' errors come ahead of all others.
func TestParseTellsTokensErrors(t *testing.T) {
	checkFault(t, "'0", 0, api.Strange)
	checkFault(t, "{l:'12|'3}", 3, api.Strange)
	checkFault(t, ") !", 2, api.Strange)
	checkFault(t, "Int Int 01", 8, api.Strange)
	checkFault(t, "int_Int", 0, api.Strange)
	checkFault(t, "INT", 0, api.Strange)
	checkFault(t, "Int \xff", 4, api.Utf)
	checkFault(t, ")# \xc0", 3, api.Utf)
	checkFault(t, "\u00e9", 0, api.Strange)
	checkFault(t, "{"+strings.Repeat("a", 33)+":Int}", 1, api.Large)
	checkFault(t, "Int 9223372036854775808", 4, api.Large)
	checkFault(t, "Int"+strings.Repeat(" ", api.MaxSource-2), 0, api.Large)
	checkFault(t, strings.Repeat(")", api.MaxSource+1), 0, api.Large)
	checkFault(t, strings.Repeat("(", 300)+"!", 300, api.Strange)
	checkParse(t, "Int"+strings.Repeat(" ", api.MaxSource-3), whole)
	checkParse(t, "{"+strings.Repeat("a", 32)+":Int}", record(field(strings.Repeat("a", 32), whole, nilRow)))
}

// nests: what opens a further level, and what closes it.
var nests = []struct{ open, end string }{
	{"(", ")"}, {"{a:", "}"}, {"<a:", ">"}, {"{ab:", "|?}"}, {"?->", ""}, {"{}->", ""}, {"<|?> -> ", ""},
}

// P4.2: 200 levels are read, one more isn't.
func TestParseOfDeepTypes(t *testing.T) {
	for _, nest := range nests {
		for _, inner := range []string{"Int", "{}", "<|?>", "?"} {
			text := strings.Repeat(nest.open, 199) + inner + strings.Repeat(nest.end, 199)
			if got, at, e := Parse([]byte(text)); at != 0 || e != api.OK {
				t.Errorf("Parse of %.30q: %.30s, %d, %v", text, dump(got), at, e)
			}
			text = strings.Repeat(nest.open, 200) + inner + strings.Repeat(nest.end, 200)
			checkFault(t, text, 200*len(nest.open), api.Deep)
		}
	}
}

// P4.2: Deep comes when a type is come to, whatever stands there; Syntax ahead of it comes first.
func TestParseTellsDeepWhenItIsComeTo(t *testing.T) {
	for _, nest := range nests {
		open := strings.Repeat(nest.open, 199)
		checkFault(t, open, len(open), api.Syntax)
		checkFault(t, open+")", len(open), api.Syntax)
		checkFault(t, open+nest.open, len(open)+len(nest.open), api.Deep)
		checkFault(t, open+nest.open+" )", len(open)+len(nest.open)+1, api.Deep)
		checkFault(t, open+"Int Int", len(open)+4, api.Syntax)
		checkFault(t, open+"Int->", len(open)+5, api.Deep)
		checkFault(t, open+"Int -> # \n Int)", len(open)+11, api.Deep)
		checkFault(t, open+"{a}", len(open)+2, api.Syntax)
		checkFault(t, open+"{a:}", len(open)+3, api.Deep)
		checkFault(t, open+"<|?>->?", len(open)+6, api.Deep)
	}
	deep := strings.Repeat("(", 200)
	checkFault(t, "{a:Int b:"+deep, 7, api.Syntax)
	checkFault(t, "{a:"+deep+"Int b:", 202, api.Deep)
	checkFault(t, "("+deep+") )", 200, api.Deep)
}

// P4.2: types beside each other are of one level, those on both sides of -> aren't.
func TestParseOfTypesBesideEachOther(t *testing.T) {
	one := strings.Repeat("(", 198) + "Int" + strings.Repeat(")", 198)
	if _, at, e := Parse([]byte("{a:" + one + ",b:" + one + ",c:" + one + "|?}")); at != 0 || e != api.OK {
		t.Errorf("fields of 199 levels: %d, %v", at, e)
	}
	if _, at, e := Parse([]byte(one + "->" + one)); at != 0 || e != api.OK {
		t.Errorf("a function of types of 199 levels: %d, %v", at, e)
	}
	checkFault(t, one+"->("+one+")", len(one)+2+199, api.Deep)
	checkFault(t, one+"->?->"+one, len(one)+5+198, api.Deep)
	checkFault(t, "{a:("+one+"),b:"+one+"}", 3+199, api.Deep)
	checkFault(t, "{a:"+one+",b:("+one+")}", len(one)+6+199, api.Deep)
}

func readerOf(t *testing.T, text string) *lexis.Reader {
	t.Helper()
	l, _, e := lexis.Tokens([]byte(text))
	if e != api.OK {
		t.Fatalf("Tokens of %q: %v", text, e)
	}
	return lexis.NewReader(l)
}

// checkRead: a type, and the place where the reader is then.
func checkRead(t *testing.T, r *lexis.Reader, level int, want api.Type, behind int) {
	t.Helper()
	got, at, e := Read(r, level)
	if at != 0 || e != api.OK || dump(got) != dump(want) {
		t.Errorf("Read, level %d: %.200s, %d, %v; want %.200s", level, dump(got), at, e, dump(want))
	}
	if stands := r.Peek().At; stands != behind {
		t.Errorf("Read, level %d: the reader is at %d; want %d", level, stands, behind)
	}
}

func checkReadFault(t *testing.T, r *lexis.Reader, level, at int, e api.Code) {
	t.Helper()
	got, gotAt, gotE := Read(r, level)
	if gotAt != at || gotE != e || dump(got) != dump(api.Type{}) {
		t.Errorf("Read, level %d: %.200s, %d, %v; want %d, %v", level, dump(got), gotAt, gotE, at, e)
	}
	if stands := r.Peek().At; stands != at {
		t.Errorf("Read, level %d: the reader is at %d; want %d", level, stands, at)
	}
}

// P4.2: as far as it goes, from where the reader is.
func TestReadGoesAsFarAsATypeGoes(t *testing.T) {
	r := readerOf(t, "Int Bool)?->{b:Int,a:Int} => x (Int)->(Int){} Int :")
	checkRead(t, r, 1, whole, 4)
	checkRead(t, r, 1, truth, 8)
	checkReadFault(t, r, 1, 8, api.Syntax)
	r.Take()
	checkRead(t, r, 1, function(open, record(field("a", whole, field("b", whole, nilRow)))), 26)
	checkReadFault(t, r, 1, 26, api.Syntax)
	r.Take()
	checkReadFault(t, r, 1, 29, api.Syntax)
	r.Take()
	checkRead(t, r, 198, function(whole, whole), 43)
	checkRead(t, r, 1, record(nilRow), 46)
	checkRead(t, r, 1, whole, 50)
	checkReadFault(t, r, 1, 50, api.Syntax)
	r.Take()
	for range 3 {
		checkReadFault(t, r, 1, 51, api.Syntax)
		r.Take()
	}
}

// P4.2: what is begun must go on.
func TestReadStopsAtWhatIsWrong(t *testing.T) {
	checkReadFault(t, readerOf(t, "Int -> ) Int"), 1, 7, api.Syntax)
	checkReadFault(t, readerOf(t, "{a:Int, b} x"), 1, 9, api.Syntax)
	checkReadFault(t, readerOf(t, "(Int x"), 1, 5, api.Syntax)
	checkReadFault(t, readerOf(t, "<a : Int | Int"), 1, 11, api.Syntax)
	checkReadFault(t, readerOf(t, "  ( ( Int"), 199, 6, api.Deep)
	checkReadFault(t, readerOf(t, "Int -> Int"), 200, 7, api.Deep)
}

// P4.2
func TestReadOfALevel(t *testing.T) {
	for _, level := range []int{math.MinInt, -1, 0, 1, 199, 200} {
		checkRead(t, readerOf(t, "Int"), level, whole, 3)
		checkRead(t, readerOf(t, "<|?> Int"), level, variant(dynRow), 5)
		checkReadFault(t, readerOf(t, " )"), level, 1, api.Syntax)
	}
	for _, level := range []int{201, 202, 1 << 40, math.MaxInt - 1, math.MaxInt} {
		checkReadFault(t, readerOf(t, " Int"), level, 1, api.Deep)
		checkReadFault(t, readerOf(t, " )"), level, 1, api.Deep)
		checkReadFault(t, readerOf(t, ""), level, 0, api.Deep)
	}
	for level := -3; level <= 200; level++ {
		for _, nest := range nests {
			room := 200 - level
			text := strings.Repeat(nest.open, room) + "Int" + strings.Repeat(nest.end, room)
			if _, at, e := Read(readerOf(t, text), level); at != 0 || e != api.OK {
				t.Errorf("Read of %.30q, level %d: %d, %v", text, level, at, e)
			}
			checkReadFault(t, readerOf(t, nest.open+text), level, len(nest.open)*(room+1), api.Deep)
		}
	}
}

// P4.2: levels far below 0 leave room for as many as the document's bound has.
func TestReadOfManyLevels(t *testing.T) {
	const deep = 1 << 16
	for _, nest := range []struct{ open, end string }{{"(", ")"}, {"{a:", "}"}, {"?->", ""}} {
		text := strings.Repeat(nest.open, deep) + "Int" + strings.Repeat(nest.end, deep)
		r := readerOfMany(t, text)
		got, at, e := Read(r, math.MinInt)
		if at != 0 || e != api.OK || r.Peek().Kind != api.End {
			t.Fatalf("Read of %.30q: %d, %v", text, at, e)
		}
		if nest.open != "(" {
			checkLong(t, got, text)
		}
		checkReadFault(t, readerOfMany(t, text), 200-deep+1, deep*len(nest.open), api.Deep)
		checkReadFault(t, readerOfMany(t, text[:deep*len(nest.open)]), math.MinInt, deep*len(nest.open), api.Syntax)
	}
}

// readerOfMany: of a text that is too large for Tokens, by pieces.
func readerOfMany(t *testing.T, text string) *lexis.Reader {
	t.Helper()
	const piece = 60000 // no token of these tests lies across its end
	var all []api.Token
	for at := 0; at < len(text); at += piece {
		l, _, e := lexis.Tokens([]byte(text[at:min(at+piece, len(text))]))
		if e != api.OK {
			t.Fatalf("Tokens: %v", e)
		}
		for _, token := range l[:len(l)-1] {
			token.At += at
			all = append(all, token)
		}
	}
	return lexis.NewReader(append(all, api.Token{Kind: api.End, At: len(text)}))
}

// P4.2: Nil is looked for first.
func TestReadOfANilReader(t *testing.T) {
	for _, level := range []int{math.MinInt, 0, 1, 200, 201, math.MaxInt} {
		if got, at, e := Read(nil, level); at != 0 || e != api.Nil || dump(got) != dump(api.Type{}) {
			t.Errorf("Read of nil, level %d: %s, %d, %v", level, dump(got), at, e)
		}
	}
}

// P4.2
func TestReadOfNoTokens(t *testing.T) {
	for _, r := range []*lexis.Reader{lexis.NewReader(nil), new(lexis.Reader)} {
		checkReadFault(t, r, 1, 0, api.Syntax)
		checkReadFault(t, r, 201, 0, api.Deep)
	}
}

// P4.2: a list of tokens may be of any kind.
func TestReadOfTokensMadeByHand(t *testing.T) {
	sign := func(text string, at int) api.Token { return api.Token{Kind: api.Sign, Text: text, At: at} }
	word := func(text string, at int) api.Token { return api.Token{Kind: api.Word, Text: text, At: at} }
	read := func(l ...api.Token) *lexis.Reader { return lexis.NewReader(l) }

	// The last token needn't be an End.
	checkRead(t, read(sign("Int", 5)), 1, whole, 5)
	checkReadFault(t, read(sign("(", 5), sign("Int", 9)), 1, 9, api.Syntax)
	checkReadFault(t, read(sign("(", -5)), 200, -5, api.Deep)
	checkRead(t, read(sign("Int", 5), api.Token{Kind: api.End, At: 7}, sign("->", 8)), 1, whole, 7)

	// A sign is one by its kind, not by its text; so is a word, and it is a name.
	for _, kind := range []uint8{0, api.Word, api.Number, api.End, 77} {
		checkReadFault(t, read(api.Token{Kind: kind, Text: "Int", At: 3}), 1, 3, api.Syntax)
		if kind != api.Word {
			checkReadFault(t, read(sign("{", 0), api.Token{Kind: kind, Text: "a", At: 3}, sign(":", 4), sign("Int", 5), sign("}", 6)), 1, 3, api.Syntax)
		}
	}
	for _, name := range []string{"", "A", "_", "1", "a b", "Int", "end", "\xff", strings.Repeat("a", 33)} {
		checkReadFault(t, read(sign("{", 0), word(name, 3), sign(":", 4), sign("Int", 5), sign("}", 6)), 1, 3, api.Syntax)
		checkReadFault(t, read(sign("{", 0), word("a", 1), sign(":", 2), sign("Int", 3), sign(",", 4), word(name, 5), sign(":", 6), sign("Int", 7), sign("}", 8)), 1, 5, api.Syntax)
	}
	checkRead(t, read(sign("{", 0), word("a", 3), sign(":", 4), sign("Int", 5), sign("}", 6)), 1, record(field("a", whole, nilRow)), 6)
}

// P4.2, R4: what is told is new memory, what is handed in stays as it is.
func TestParseTellsNewMemory(t *testing.T) {
	text := []byte("{b:Int->{},a:<c:?|?>}")
	kept := slices.Clone(text)
	one, _, _ := Parse(text)
	if !slices.Equal(text, kept) {
		t.Fatalf("%q became %q", kept, text)
	}
	want := clone(one)
	for i := range text {
		text[i] = 'z'
	}
	checkAlike(t, "behind a change of the text", one, want)
	other, _, _ := Parse(kept)
	spoil(&other)
	again, _, _ := Parse(kept)
	checkAlike(t, "behind a change of another answer", one, want)
	checkAlike(t, "again", again, want)
}

func spoil(t *api.Type) {
	for i := range t.Kids {
		spoil(&t.Kids[i])
		t.Kids[i] = api.Type{Op: api.EUpd, Name: "spoiled", N: -7}
	}
}
