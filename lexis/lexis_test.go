package lexis

import (
	"bytes"
	"math"
	"math/big"
	"regexp"
	"slices"
	"strings"
	"testing"
	"unicode/utf8"

	"rowan/api"
)

var signs = []string{
	"==", "=>", ":=", "->", "(", ")", "{", "}", "<", ">", "=", ",", ":", ";", "|",
	".", "\\", "@", "^", "?", "+", "-", "*", "/", "%",
}

var keywords = []string{
	"fun", "rec", "let", "in", "if", "then", "else", "case", "of", "end",
	"true", "false", "def", "Int", "Bool",
}

var blanks = []string{" ", "\t", "\r", "\n"}

func sign(text string, at int) api.Token {
	return api.Token{Kind: api.Sign, Text: text, At: at}
}

func name(text string, at int) api.Token {
	return api.Token{Kind: api.Word, Text: text, At: at}
}

func whole(n int64, at int) api.Token {
	return api.Token{Kind: api.Number, N: n, At: at}
}

func end(at int) api.Token {
	return api.Token{Kind: api.End, At: at}
}

// checkTokens: are the tokens of a text these, and the End?
func checkTokens(t *testing.T, text string, want ...api.Token) {
	t.Helper()
	want = append(want, end(len(text)))
	l, at, e := Tokens([]byte(text))
	if at != 0 || e != api.OK || !slices.Equal(l, want) {
		t.Errorf("Tokens of %.60q: %v, %d, %v; want %v", text, l, at, e, want)
	}
}

func checkFault(t *testing.T, text string, at int, e api.Code) {
	t.Helper()
	l, gotAt, gotE := Tokens([]byte(text))
	if len(l) != 0 || gotAt != at || gotE != e {
		t.Errorf("Tokens of %.60q: %v, %d, %v; want none, %d, %v", text, l, gotAt, gotE, at, e)
	}
}

// P2.1
func TestTokensOfAnEmptyText(t *testing.T) {
	checkTokens(t, "")
	if l, at, e := Tokens(nil); len(l) != 1 || l[0] != end(0) || at != 0 || e != api.OK {
		t.Errorf("Tokens of nil: %v, %d, %v", l, at, e)
	}
}

// P2.1
func TestTokensOfTheExample(t *testing.T) {
	checkTokens(t, "x=>1 # one", name("x", 0), sign("=>", 1), whole(1, 3))
}

// P2.1
func TestTokensOfSigns(t *testing.T) {
	for _, s := range append(slices.Clone(signs), keywords...) {
		checkTokens(t, s, sign(s, 0))
		checkTokens(t, " "+s+"\n", sign(s, 1))
		checkTokens(t, s+" "+s, sign(s, 0), sign(s, len(s)+1))
	}
	for _, s := range signs {
		checkTokens(t, "a"+s+"1", name("a", 0), sign(s, 1), whole(1, 1+len(s)))
	}
}

// P2.1
func TestTheLongestSignIsTaken(t *testing.T) {
	for text, want := range map[string][]string{
		"===":       {"==", "="},
		"====":      {"==", "=="},
		"==>":       {"==", ">"},
		"=>>":       {"=>", ">"},
		"=>=":       {"=>", "="},
		"=:=":       {"=", ":="},
		":==":       {":=", "="},
		":=>":       {":=", ">"},
		"::=":       {":", ":="},
		"-->":       {"-", "->"},
		"->>":       {"->", ">"},
		"->->":      {"->", "->"},
		">=":        {">", "="},
		"=<":        {"=", "<"},
		"=:":        {"=", ":"},
		">-":        {">", "-"},
		"<>":        {"<", ">"},
		"<=":        {"<", "="},
		"<-":        {"<", "-"},
		"||":        {"|", "|"},
		"\\\\":      {"\\", "\\"},
		"{}()<>{|}": {"{", "}", "(", ")", "<", ">", "{", "|", "}"},
		"= =":       {"=", "="},
		"- >":       {"-", ">"},
		":\n=":      {":", "="},
		"=\t>":      {"=", ">"},
	} {
		l, _, e := Tokens([]byte(text))
		var got []string
		for _, token := range l[:max(len(l)-1, 0)] {
			got = append(got, token.Text)
		}
		if e != api.OK || !slices.Equal(got, want) {
			t.Errorf("Tokens of %q: %q, %v; want %q", text, got, e, want)
		}
	}
	// A remark cuts a sign, as a blank does.
	checkTokens(t, "=#\n>", sign("=", 0), sign(">", 3))
}

// P2.1
func TestTokensOfWords(t *testing.T) {
	for _, s := range []string{
		"x", "z", "a_1", "a_", "a__", "x0", "x01", "abc", "fun_", "fun1", "funx", "rec0", "let_in",
		"iff", "i", "inn", "thenelse", "cases", "off", "ends", "truefalse", "tru", "defx", "int",
		"bool", "e9", strings.Repeat("a", 31), strings.Repeat("z_9a", 8), "fun" + strings.Repeat("1", 29),
	} {
		checkTokens(t, s, name(s, 0))
		checkTokens(t, "\t"+s+"#", name(s, 1))
		checkTokens(t, "("+s+")", sign("(", 0), name(s, 1), sign(")", 1+len(s)))
	}
}

// P2.1
func TestTokensOfNumbers(t *testing.T) {
	for text, n := range map[string]int64{
		"0": 0, "1": 1, "9": 9, "10": 10, "12": 12, "100": 100, "4294967296": 1 << 32,
		"999999999999999999": 999999999999999999, "1000000000000000000": 1000000000000000000,
		"9223372036854775806": math.MaxInt64 - 1, "9223372036854775807": math.MaxInt64,
	} {
		checkTokens(t, text, whole(n, 0))
		checkTokens(t, "-"+text+" ", sign("-", 0), whole(n, 1))
		checkTokens(t, "x."+text, name("x", 0), sign(".", 1), whole(n, 2))
	}
	checkTokens(t, "0 0", whole(0, 0), whole(0, 2))
}

// P2.1
func TestTokensBetweenBlanks(t *testing.T) {
	for _, s := range blanks {
		checkTokens(t, s)
		checkTokens(t, s+s+s)
		checkTokens(t, "a"+s+"b", name("a", 0), name("b", 2))
		checkTokens(t, "1"+s+"1", whole(1, 0), whole(1, 2))
		checkTokens(t, "let"+s+"in", sign("let", 0), sign("in", 4))
	}
	checkTokens(t, " \t\r\nx\n\r\t ", name("x", 4))
}

// P2.1
func TestTokensBetweenRemarks(t *testing.T) {
	checkTokens(t, "#")
	checkTokens(t, "# a fault! 01 _ A #")
	checkTokens(t, "#\n")
	checkTokens(t, "##\n#\n")
	checkTokens(t, "a#b\nc", name("a", 0), name("c", 4))
	checkTokens(t, "a#\nb#", name("a", 0), name("b", 3))
	checkTokens(t, "1#1\n1#", whole(1, 0), whole(1, 4))
	checkTokens(t, "# a\r b\t c\nd", name("d", 10))
	checkTokens(t, "#\u00e9\u20ac\U0001f33f\x00\x7f\u2028\u0085\nx", name("x", 18))
	checkTokens(t, "x #\u00e9", name("x", 0))
	checkTokens(t, "#\U0010ffff")
}

// P2.1
func TestTokensOfMuch(t *testing.T) {
	for _, s := range []string{" ", "\n", "#", "# \u00e9\n"} {
		most := strings.Repeat(s, api.MaxSource/len(s)+1)[:api.MaxSource]
		checkTokens(t, most)
		checkFault(t, most+" ", 0, api.Large)
	}
	checkTokens(t, strings.Repeat(" ", api.MaxSource-1)+"x", name("x", api.MaxSource-1))
	many := "x" + strings.Repeat("(", api.MaxSource-1)
	if l, at, e := Tokens([]byte(many)); len(l) != api.MaxSource+1 || at != 0 || e != api.OK {
		t.Errorf("Tokens of %d signs: %d, %d, %v", len(many), len(l), at, e)
	}
	// Too long a text is told ahead of what is wrong in it.
	for _, s := range []string{"\xff", "_", "01", strings.Repeat("9", 40)} {
		checkFault(t, s+strings.Repeat(" ", api.MaxSource), 0, api.Large)
	}
	checkFault(t, strings.Repeat(" ", api.MaxSource-1)+"_", api.MaxSource-1, api.Strange)
	checkFault(t, "#"+strings.Repeat(" ", api.MaxSource-2)+"\xc3", api.MaxSource-1, api.Utf)
	checkFault(t, strings.Repeat("a", api.MaxSource), 0, api.Large)
	checkFault(t, strings.Repeat("1", api.MaxSource), 0, api.Large)
	checkFault(t, strings.Repeat("0", api.MaxSource), 0, api.Strange)
	checkFault(t, strings.Repeat("A", api.MaxSource), 0, api.Strange)
}

// checkFaultAnywhere: is it a fault of a text, wherever in it that stands?
func checkFaultAnywhere(t *testing.T, s string, at int, e api.Code) {
	t.Helper()
	checkFault(t, s, at, e)
	for _, ahead := range []string{" ", "x ", "1+", "# \u20ac\n", "fun x => "} {
		checkFault(t, ahead+s, len(ahead)+at, e)
		checkFault(t, ahead+s+"\n", len(ahead)+at, e)
		checkFault(t, ahead+s+" x = 1", len(ahead)+at, e)
	}
}

// P2.1
func TestTokensRefusesWrongBytes(t *testing.T) {
	for _, s := range []string{
		"\x80", "\xbf", "\xc0\x80", "\xc3", "\xc3\x28", "\xe2\x82", "\xe2", "\xed\xa0\x80", "\xf0\x9f\x8c",
		"\xf0\x80\x80\x80", "\xf4\x90\x80\x80", "\xf8\x88\x80\x80\x80", "\xfe", "\xff",
	} {
		checkFaultAnywhere(t, s, 0, api.Utf)
		checkFaultAnywhere(t, "x"+s, 1, api.Utf)
		checkFaultAnywhere(t, "12"+s, 2, api.Utf)
		checkFaultAnywhere(t, "="+s, 1, api.Utf)
		checkFaultAnywhere(t, "#"+s, 1, api.Utf)
		checkFaultAnywhere(t, "# \u00e9 ! "+s, 7, api.Utf)
		checkFaultAnywhere(t, "#\n"+s, 2, api.Utf)
	}
}

// P2.1
func TestTokensRefusesRunsThatAreNoToken(t *testing.T) {
	for _, s := range []string{
		"00", "01", "007", "1a", "0x", "1_", "1_000", "12B", "0_", "9z9", "1fun",
		"A", "Z", "Ab", "INT", "Int1", "Int_", "Ints", "BoolInt", "Boolean", "Fun", "True", "X1",
		"_", "__", "_a", "_1", "_A", "_fun",
		"aB", "xX", "a_B", "fuN", "a1Z", "letIn",
		strings.Repeat("0", 40), "1" + strings.Repeat("a", 40), strings.Repeat("9", 40) + "a",
		strings.Repeat("a", 40) + "B", strings.Repeat("_", 40), strings.Repeat("A", 40),
		"0" + strings.Repeat("9", 40), strings.Repeat("a", 31) + "B",
	} {
		checkFaultAnywhere(t, s, 0, api.Strange)
	}
}

// P2.1
func TestTokensRefusesStrangeCodePoints(t *testing.T) {
	for _, s := range []string{
		"!", "\"", "$", "&", "'", "[", "]", "`", "~", "\x00", "\x01", "\v", "\f", "\x1b", "\x7f",
		"\u0085", "\u00a0", "\u00e9", "\u2028", "\u20ac", "\ufeff", "\ufffd", "\U0001f33f", "\U0010ffff",
		"\u0661", "\uff11", "\u03b1",
	} {
		checkFaultAnywhere(t, s, 0, api.Strange)
		checkFaultAnywhere(t, "x"+s, 1, api.Strange)
		checkFaultAnywhere(t, "1"+s, 1, api.Strange)
		checkFaultAnywhere(t, "="+s+"=", 1, api.Strange)
		checkFaultAnywhere(t, "fun"+s, 3, api.Strange)
	}
}

// P2.1
func TestTokensRefusesWhatIsTooLarge(t *testing.T) {
	for _, s := range []string{
		"9223372036854775808", "9223372036854775809", "9223372036854775810", "9999999999999999999",
		"10000000000000000000", "18446744073709551615", "18446744073709551616", "18446744073709551617",
		"36893488147419103232", "340282366920938463463374607431768211456",
		"1" + strings.Repeat("0", 1000), strings.Repeat("9", 65000),
		strings.Repeat("a", 33), "a" + strings.Repeat("_", 32), "fun" + strings.Repeat("0", 30), strings.Repeat("x1", 5000),
	} {
		checkFaultAnywhere(t, s, 0, api.Large)
	}
	checkFault(t, "-9223372036854775808", 1, api.Large)
}

// P2.1
func TestTheFirstFaultFromTheLeftIsTold(t *testing.T) {
	big, long := strings.Repeat("9", 20), strings.Repeat("a", 33)
	faults := []struct {
		text string
		e    api.Code
	}{
		{"\xff", api.Utf}, {"!", api.Strange}, {"\u00e9", api.Strange}, {"01", api.Strange}, {"_", api.Strange},
		{"A", api.Strange}, {big, api.Large}, {long, api.Large},
	}
	for _, first := range faults {
		for _, second := range faults {
			for _, between := range []string{" ", "\n", "=", " x "} {
				checkFault(t, "x "+first.text+between+second.text, 2, first.e)
			}
		}
		// What is wrong in a run stands at its first byte, ahead of what stands behind.
		checkFault(t, "a\nbA\xff"+first.text, 2, api.Strange)
		checkFault(t, "# \xff\n"+first.text, 2, api.Utf)
		checkFault(t, first.text+"# \xff", 0, first.e)
	}
	checkFault(t, long+"\xff", 0, api.Large)
	checkFault(t, big+"\u00e9", 0, api.Large)
	checkFault(t, "01\xff", 0, api.Strange)
	checkFault(t, "\u00e9\xff", 0, api.Strange)
	checkFault(t, "# \u00e9\xff\xfe\n", 4, api.Utf)
}

// P2.1: each byte alone, and each behind a word.
func TestTokensOfEachByte(t *testing.T) {
	for c := range 256 {
		for _, ahead := range []string{"", "a", "1", "=", "-", "_", "a ", "#", "#\n"} {
			checkByShapes(t, []byte(ahead+string([]byte{byte(c)})))
		}
	}
}

// P2.1: short texts of all kinds, against shapes.
func TestShortTextsAgreeWithShapes(t *testing.T) {
	pieces := []string{
		"i", "n", "f", "Int", "A", "0", "1", "_", "=", ">", ":", "-", "#", "\n", " ", "!", "\u00e9", "\xc3",
		"9223372036854775807", strings.Repeat("a", 32),
	}
	for number := range 20 * 20 * 20 * 20 {
		var b []byte
		for n, i := number, 0; i < 4; i++ {
			b = append(b, pieces[n%len(pieces)]...)
			n /= len(pieces)
		}
		checkByShapes(t, b)
		if t.Failed() {
			return
		}
	}
}

var (
	blankShape  = regexp.MustCompile(`^(?:[ \t\r\n]+|#[^\n]*)`)
	runShape    = regexp.MustCompile(`^[0-9A-Za-z_]+`)
	numberShape = regexp.MustCompile(`^(?:0|[1-9][0-9]*)$`)
	wordShape   = regexp.MustCompile(`^[a-z][a-z0-9_]*$`)
	signShape   = regexp.MustCompile(`^(?:==|=>|:=|->|[(){}<>=,:;|.\\@^?+\-*/%])`)
)

func checkByShapes(t *testing.T, b []byte) {
	t.Helper()
	l, at, e := Tokens(b)
	want, wantAt, wantE := byShapes(string(b))
	if !slices.Equal(l, want) || at != wantAt || e != wantE {
		t.Errorf("Tokens of %q: %v, %d, %v; want %v, %d, %v", b, l, at, e, want, wantAt, wantE)
	}
}

// byShapes: what Tokens should tell, by shapes of texts.
func byShapes(s string) ([]api.Token, int, api.Code) {
	var l []api.Token
	for at := 0; at < len(s); {
		rest := s[at:]
		if skip := blankShape.FindString(rest); skip != "" {
			if !utf8.ValidString(skip) {
				return nil, at + validAhead(skip), api.Utf
			}
			at += len(skip)
			continue
		}
		run, op := runShape.FindString(rest), signShape.FindString(rest)
		n, _ := new(big.Int).SetString(run, 10)
		switch {
		case op != "" || slices.Contains(keywords, run):
			l = append(l, sign(run+op, at))
		case numberShape.MatchString(run) && n.IsInt64():
			l = append(l, whole(n.Int64(), at))
		case wordShape.MatchString(run) && len(run) <= 32:
			l = append(l, name(run, at))
		case numberShape.MatchString(run), wordShape.MatchString(run):
			return nil, at, api.Large
		case run == "" && validAhead(rest) == 0:
			return nil, at, api.Utf
		default:
			return nil, at, api.Strange
		}
		at += len(run + op)
	}
	return append(l, end(len(s))), 0, api.OK
}

// validAhead: how many bytes are right, ahead of the first wrong place.
func validAhead(s string) int {
	at := 0
	for at < len(s) {
		r, size := utf8.DecodeRuneInString(s[at:])
		if r == utf8.RuneError && size == 1 {
			break
		}
		at += size
	}
	return at
}

// P2.1, R4
func TestTokensTellsNewMemory(t *testing.T) {
	b := []byte("let f = 12 # \u00e9\nfun")
	kept := bytes.Clone(b)
	l, _, _ := Tokens(b)
	if !bytes.Equal(b, kept) {
		t.Fatalf("%q became %q", kept, b)
	}
	for i := range b {
		b[i] = '!'
	}
	want := []api.Token{sign("let", 0), name("f", 4), sign("=", 6), whole(12, 8), sign("fun", 16), end(19)}
	if !slices.Equal(l, want) {
		t.Errorf("the tokens changed with the text: %v", l)
	}
	one, _, _ := Tokens(kept)
	two, _, _ := Tokens(kept)
	one[0].Text = "x"
	if two[0].Text != "let" {
		t.Error("two answers of Tokens share memory")
	}
}

// P2.1
func TestIsWord(t *testing.T) {
	for s, want := range map[string]bool{
		"x": true, "x_1": true, "a__": true, "fun1": true, "fu": true, "int": true, "z9": true, "e_": true,
		strings.Repeat("a", 32): true, strings.Repeat("a", 33): false, strings.Repeat("a", 100000): false,
		"fun" + strings.Repeat("0", 29): true, "fun" + strings.Repeat("0", 30): false,
		"": false, " ": false, "1x": false, "1": false, "_": false, "_a": false, "A": false, "aB": false,
		" a": false, "a ": false, "a b": false, "a\n": false, "a#": false, "#a": false, "a.b": false, "a=": false,
		"\u00e9": false, "a\u00e9": false, "a\xff": false, "\xff": false, "a\x00": false, "\x00": false, "a-b": false,
		"=": false, "=>": false, "@": false, "a'": false, "a`": false, "a{": false,
	} {
		if IsWord(s) != want {
			t.Errorf("IsWord(%.40q): %v", s, !want)
		}
	}
	for _, s := range append(slices.Clone(signs), keywords...) {
		if IsWord(s) {
			t.Errorf("IsWord(%q): true", s)
		}
	}
}

// P2.1: short texts of all bytes, against the tokens.
func TestIsWordAgreesWithTokens(t *testing.T) {
	for number := range 1 << 16 {
		checkIsWord(t, string([]byte{byte(number >> 8), byte(number)}))
		checkIsWord(t, "a"+string([]byte{byte(number >> 8), byte(number)}))
	}
	for c := range 256 {
		checkIsWord(t, string([]byte{byte(c)}))
		for _, s := range keywords {
			checkIsWord(t, s+string([]byte{byte(c)}))
			checkIsWord(t, string([]byte{byte(c)})+s)
		}
	}
}

func checkIsWord(t *testing.T, s string) {
	t.Helper()
	l, _, _ := Tokens([]byte(s))
	want := len(l) == 2 && l[0] == name(s, 0)
	if IsWord(s) != want {
		t.Errorf("IsWord(%q): %v", s, !want)
	}
}

// P2.3
func TestBlanksAndRemarksChangeNothingButPlaces(t *testing.T) {
	for _, text := range []string{
		"", "x", "1", "fun x=>x", "a:=b==c", "let f=fun x=>x.a_1 in f 12",
		"case @l 1 of ^x y=>y;else z=>z end", "{a=1,b=-2|r}\\a", "def a=true def b=(a:?->Int)",
		"<a:Bool|?>", "let in if then else", "9223372036854775807%0", "= > == => - > ->",
	} {
		l, _, e := Tokens([]byte(text))
		if e != api.OK {
			t.Fatalf("Tokens of %q: %v", text, e)
		}
		for i := range len(gaps) {
			wide, want := spread(text, l, i)
			got, at, e := Tokens([]byte(wide))
			if at != 0 || e != api.OK || !slices.Equal(got, want) {
				t.Errorf("Tokens of %q: %v, %d, %v; want %v", wide, got, at, e, want)
			}
		}
	}
}

var gaps = []string{
	" ", "\t", "\r", "\n", "  ", " \t\r\n", "\r\n\r\n", "#\n", "# one\n", " # \u00e9 01 ! _A\n ", "#a\r\n#b\n",
	"##\n\n", "#\"x\n", "\n#\U0001f33f\n\t",
}

// spread: a text in which gaps stand around its tokens, from one gap on, and the
// tokens at their new places.
func spread(text string, l []api.Token, from int) (string, []api.Token) {
	wide, want := gaps[from], slices.Clone(l)
	for i := range l[:len(l)-1] {
		want[i].At = len(wide)
		wide += strings.TrimRight(text[l[i].At:l[i+1].At], " ")
		wide += gaps[(from+i+1)%len(gaps)]
	}
	// A remark at the end needs no line feed.
	if from%2 == 1 {
		wide += "# the end"
	}
	want[len(l)-1].At = len(wide)
	return wide, want
}

// P2.3: blanks that stand already may be others.
func TestBlanksMayBeExchanged(t *testing.T) {
	want, _, _ := Tokens([]byte("a 1 fun = = b"))
	for _, s := range blanks {
		text := strings.ReplaceAll("a 1 fun = = b", " ", s)
		if l, _, e := Tokens([]byte(text)); e != api.OK || !slices.Equal(l, want) {
			t.Errorf("Tokens of %q: %v, %v; want %v", text, l, e, want)
		}
	}
}
