package lexis

import (
	"math"
	"slices"
	"testing"

	"rowan/api"
)

func checkPeek(t *testing.T, r *Reader, want api.Token) {
	t.Helper()
	for range 2 {
		if got := r.Peek(); got != want {
			t.Errorf("Peek: %v; want %v", got, want)
		}
	}
}

func checkTake(t *testing.T, r *Reader, want api.Token) {
	t.Helper()
	checkPeek(t, r, want)
	if got := r.Take(); got != want {
		t.Errorf("Take: %v; want %v", got, want)
	}
}

// P2.2
func TestReaderTakesTokensInTheirOrder(t *testing.T) {
	l, _, _ := Tokens([]byte("let f = 12 in f # one"))
	r := NewReader(l)
	for _, token := range l {
		checkTake(t, r, token)
	}
	for range 3 {
		checkTake(t, r, end(21))
	}
}

// P2.2: the last one needn't be an End.
func TestReaderBehindTheLastToken(t *testing.T) {
	for _, last := range []api.Token{
		name("x", 7), sign("fun", 7), whole(5, 7), {Kind: api.End, Text: "x", N: 5, At: 7}, {At: 7},
	} {
		r := NewReader([]api.Token{name("a", 3), last})
		checkTake(t, r, name("a", 3))
		checkTake(t, r, last)
		for range 3 {
			checkTake(t, r, end(7))
			if r.Is("fun") || r.Skip("fun") || r.Is("") || r.Skip("") {
				t.Errorf("a sign behind the last token %v", last)
			}
		}
	}
	for _, at := range []int{math.MinInt, -1, math.MaxInt} {
		r := NewReader([]api.Token{name("a", at)})
		checkTake(t, r, name("a", at))
		checkTake(t, r, end(at))
	}
}

// P2.2: an End that isn't the last token is a token as others are.
func TestReaderGoesBeyondAnEarlyEnd(t *testing.T) {
	r := NewReader([]api.Token{end(4), name("a", 5), sign("=", 6)})
	checkTake(t, r, end(4))
	checkTake(t, r, name("a", 5))
	if !r.Skip("=") {
		t.Error("Skip: false")
	}
	checkTake(t, r, end(6))
}

// P2.2
func TestReaderOfNoTokens(t *testing.T) {
	for _, l := range [][]api.Token{nil, {}} {
		checkNothingToRead(t, NewReader(l))
	}
	checkNothingToRead(t, nil)
	checkNothingToRead(t, new(Reader))
}

func checkNothingToRead(t *testing.T, r *Reader) {
	t.Helper()
	for range 3 {
		checkTake(t, r, end(0))
		for _, text := range []string{"", "fun", "=", "x"} {
			if r.Is(text) || r.Skip(text) {
				t.Errorf("a sign %q of no tokens", text)
			}
		}
	}
}

// P2.2
func TestReaderTellsSigns(t *testing.T) {
	l, _, _ := Tokens([]byte("fun x => == 1 Int"))
	r := NewReader(l)
	texts := []string{"fun", "x", "=>", "=", "==", ">", "1", "", "Int", "end", "int"}
	for i, sign := range []string{"fun", "", "=>", "==", "", "Int", ""} {
		isSign := l[i].Kind == api.Sign
		for _, text := range texts {
			if want := isSign && text == sign; r.Is(text) != want {
				t.Errorf("Is(%q) at %v: %v", text, l[i], !want)
			}
			if text != sign && r.Skip(text) {
				t.Errorf("Skip(%q) at %v: true", text, l[i])
			}
			checkPeek(t, r, l[i])
		}
		if isSign && !r.Skip(sign) {
			t.Errorf("Skip(%q) at %v: false", sign, l[i])
		}
		if !isSign {
			checkTake(t, r, l[i])
		}
	}
	checkPeek(t, r, end(17))
}

// P2.2: a word or a number is no sign, whatever its text.
func TestReaderTellsSignsByTheirKind(t *testing.T) {
	for _, kind := range []uint8{0, api.Word, api.Number, api.End, api.End + 1, 255} {
		token := api.Token{Kind: kind, Text: "fun"}
		r := NewReader([]api.Token{token})
		if r.Is("fun") || r.Skip("fun") {
			t.Errorf("a token of kind %d is a sign", kind)
		}
		checkPeek(t, r, token)
	}
}

// P2.2, R4
func TestReaderKeepsACopy(t *testing.T) {
	l, _, _ := Tokens([]byte("a = 1"))
	kept := slices.Clone(l)
	r := NewReader(l)
	if !slices.Equal(l, kept) {
		t.Fatalf("%v became %v", kept, l)
	}
	other := NewReader(l)
	for i := range l {
		l[i] = sign("fun", 99)
	}
	for _, token := range kept {
		checkTake(t, r, token)
	}
	checkTake(t, r, kept[3])
	// Another reader of the list is where it was.
	checkTake(t, other, kept[0])
	if l[0] != sign("fun", 99) {
		t.Error("a reader changed the list")
	}
	// What stands behind the list's length is none of it.
	checkEndOfPart(t, kept)
}

func checkEndOfPart(t *testing.T, l []api.Token) {
	t.Helper()
	r := NewReader(l[:1])
	checkTake(t, r, l[0])
	checkTake(t, r, end(l[0].At))
}
