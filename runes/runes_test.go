package runes

import (
	"bytes"
	"math"
	"testing"
	"unicode/utf8"

	"rowan/api"
)

// points are code points at the ends of each length, and some between.
var points = []struct {
	r int32
	b []byte
}{
	{0, []byte{0}},
	{10, []byte{10}},
	{'a', []byte{97}},
	{127, []byte{127}},
	{128, []byte{194, 128}},
	{233, []byte{195, 169}},
	{2047, []byte{223, 191}},
	{2048, []byte{224, 160, 128}},
	{8364, []byte{226, 130, 172}},
	{55295, []byte{237, 159, 191}},
	{57344, []byte{238, 128, 128}},
	{65533, []byte{239, 191, 189}},
	{65535, []byte{239, 191, 191}},
	{65536, []byte{240, 144, 128, 128}},
	{127807, []byte{240, 159, 140, 191}},
	{1114111, []byte{244, 143, 191, 191}},
}

// wrong are bytes at whose beginning no code point's bytes stand.
var wrong = map[string][]byte{
	"a later byte first":        {128},
	"a later byte first, last":  {191, 97},
	"two bytes, cut short":      {195},
	"two bytes, broken off":     {195, 97},
	"two bytes, then a first":   {195, 195},
	"three bytes, one there":    {226},
	"three bytes, two there":    {226, 130},
	"three bytes, broken off":   {226, 130, 97},
	"three bytes, broken early": {226, 97, 172},
	"four bytes, one there":     {240},
	"four bytes, two there":     {240, 159},
	"four bytes, three there":   {240, 159, 140},
	"four bytes, broken off":    {240, 159, 140, 10},
	"four bytes, then a first":  {240, 159, 140, 240},
	"0 in two":                  {192, 128},
	"127 in two":                {193, 191},
	"0 in three":                {224, 128, 128},
	"2047 in three":             {224, 159, 191},
	"0 in four":                 {240, 128, 128, 128},
	"65535 in four":             {240, 143, 191, 191},
	"55296":                     {237, 160, 128},
	"57343":                     {237, 191, 191},
	"1114112":                   {244, 144, 128, 128},
	"beyond, 245":               {245, 128, 128, 128},
	"beyond, 247":               {247, 191, 191, 191},
	"five bytes":                {248, 136, 128, 128, 128},
	"six bytes":                 {252, 132, 128, 128, 128, 128},
	"254":                       {254},
	"255":                       {255, 191, 191, 191},
}

func checkNext(t *testing.T, b []byte, at int, r int32, size int, e api.Code) {
	t.Helper()
	gotR, gotSize, gotE := Next(b, at)
	if gotR != r || gotSize != size || gotE != e {
		t.Errorf("Next(%v, %d): %d, %d, %v; want %d, %d, %v", b, at, gotR, gotSize, gotE, r, size, e)
	}
}

// P1.1
func TestNextTellsCodePoints(t *testing.T) {
	for _, p := range points {
		checkNext(t, p.b, 0, p.r, len(p.b), api.OK)
		text := append(append([]byte("x\u00e9"), p.b...), 255)
		checkNext(t, text, 3, p.r, len(p.b), api.OK)
	}
}

// P1.1
func TestNextRefusesWrongBytes(t *testing.T) {
	for name, b := range wrong {
		t.Run(name, func(t *testing.T) {
			checkNext(t, b, 0, 0, 0, api.Utf)
			checkNext(t, append([]byte("ab"), b...), 2, 0, 0, api.Utf)
		})
	}
	for _, p := range points {
		for at := 1; at < len(p.b); at++ {
			checkNext(t, p.b, at, 0, 0, api.Utf)
			checkNext(t, p.b[:at], 0, 0, 0, api.Utf)
		}
	}
}

// P1.1: what stands elsewhere is nothing to Next.
func TestNextLooksAtItsPlaceAlone(t *testing.T) {
	b := []byte{255, 226, 130, 172, 255}
	checkNext(t, b, 1, 8364, 3, api.OK)
	checkNext(t, b, 0, 0, 0, api.Utf)
	checkNext(t, b, 4, 0, 0, api.Utf)
	// Bytes beyond the length are none, even where the memory holds them.
	checkNext(t, b[:3], 1, 0, 0, api.Utf)
}

// P1.1
func TestNextRefusesPlacesOutside(t *testing.T) {
	for _, b := range [][]byte{nil, {}, {97}, {255}, {226, 130, 172}} {
		for _, at := range []int{math.MinInt, -1, len(b), len(b) + 1, math.MaxInt} {
			checkNext(t, b, at, 0, 0, api.Arg)
		}
	}
}

// P1.1: each start is told as a reading by the library tells it.
func TestNextAgreesWithTheLibrary(t *testing.T) {
	later := []byte{0, 10, 127, 128, 143, 144, 159, 160, 191, 192, 255}
	for first := range 256 {
		for _, second := range later {
			for _, third := range later {
				for _, fourth := range later {
					b := []byte{byte(first), second, third, fourth}
					for n := 1; n <= 4; n++ {
						r, size, e := fromLibrary(b[:n])
						checkNext(t, b[:n], 0, r, size, e)
					}
				}
			}
		}
	}
}

func fromLibrary(b []byte) (int32, int, api.Code) {
	r, size := utf8.DecodeRune(b)
	if r == utf8.RuneError && size == 1 {
		return 0, 0, api.Utf
	}
	return r, size, api.OK
}

// P1.1
func TestPutTellsBytes(t *testing.T) {
	for _, p := range points {
		for _, ahead := range [][]byte{nil, {}, []byte("x"), {255, 192}, []byte("\u00e9\n")} {
			out, ok := Put(ahead, p.r)
			if want := append(bytes.Clone(ahead), p.b...); !ok || !bytes.Equal(out, want) {
				t.Errorf("Put(%v, %d): %v, %v; want %v", ahead, p.r, out, ok, want)
			}
		}
	}
}

// P1.1
func TestPutRefusesOtherNumbers(t *testing.T) {
	for _, r := range []int32{math.MinInt32, -57344, -128, -1, 55296, 56000, 57343, 1114112, 1 << 21, math.MaxInt32} {
		for _, ahead := range [][]byte{nil, []byte("x")} {
			if out, ok := Put(ahead, r); ok || len(out) != 0 {
				t.Errorf("Put(%v, %d): %v, %v", ahead, r, out, ok)
			}
		}
	}
}

// P1.1, R4
func TestPutTellsNewMemory(t *testing.T) {
	for _, p := range points {
		whole := []byte("abcdefgh")
		out, _ := Put(whole[:3], p.r)
		if string(whole) != "abcdefgh" {
			t.Errorf("Put of %d wrote into what it was given: %q", p.r, whole)
		}
		whole[0] = 'z'
		if out[0] != 'a' {
			t.Errorf("Put of %d kept what it was given", p.r)
		}
		again, _ := Put(out, 'x')
		again[0] = 'y'
		other, _ := Put(out, 'w')
		if out[0] != 'a' || again[len(again)-1] != 'x' || other[len(other)-1] != 'w' {
			t.Errorf("two answers of Put behind %d share memory", p.r)
		}
	}
}

// P1.2
func TestCheckAndCountOfRightBytes(t *testing.T) {
	checkRight(t, nil, 0)
	checkRight(t, []byte{}, 0)
	var all []byte
	for i, p := range points {
		checkRight(t, p.b, 1)
		all = append(all, p.b...)
		checkRight(t, all, i+1)
	}
	checkRight(t, []byte("a\u00e9\n\U0001f33fz"), 5)
}

func checkRight(t *testing.T, b []byte, count int) {
	t.Helper()
	if at := Check(b); at != -1 {
		t.Errorf("Check(%v): %d; want -1", b, at)
	}
	if n, e := Count(b); n != count || e != api.OK {
		t.Errorf("Count(%v): %d, %v; want %d, ok", b, n, e, count)
	}
}

// P1.2
func TestCheckAndCountOfWrongBytes(t *testing.T) {
	for name, b := range wrong {
		t.Run(name, func(t *testing.T) {
			checkWrong(t, b, 0)
			for _, ahead := range []string{"ab", "\u00e9", "\n\u20ac\U0001f33f"} {
				checkWrong(t, append([]byte(ahead), b...), len(ahead))
			}
			// The first wrong place is told, whatever stands behind.
			checkWrong(t, append(append([]byte("x"), b...), "y\xff\xff"...), 1)
		})
	}
	for _, p := range points {
		for n := 1; n < len(p.b); n++ {
			checkWrong(t, append([]byte("\u20ac"), p.b[:n]...), 3)
		}
	}
}

func checkWrong(t *testing.T, b []byte, place int) {
	t.Helper()
	if at := Check(b); at != place {
		t.Errorf("Check(%v): %d; want %d", b, at, place)
	}
	if n, e := Count(b); n != 0 || e != api.Utf {
		t.Errorf("Count(%v): %d, %v; want 0, utf", b, n, e)
	}
}

func checkPlace(t *testing.T, b []byte, at, line, column int, e api.Code) {
	t.Helper()
	gotLine, gotColumn, gotE := Place(b, at)
	if gotLine != line || gotColumn != column || gotE != e {
		t.Errorf("Place(%v, %d): %d, %d, %v; want %d, %d, %v", b, at, gotLine, gotColumn, gotE, line, column, e)
	}
}

// P1.3
func TestPlaceTellsLineAndColumn(t *testing.T) {
	checkPlace(t, nil, 0, 1, 1, api.OK)
	checkPlace(t, []byte{}, 0, 1, 1, api.OK)
	b := []byte("a\u00e9\n\n\U0001f33f\u20acz\n")
	places := []struct{ at, line, column int }{
		{0, 1, 1}, {1, 1, 2}, {3, 1, 3}, {4, 2, 1}, {5, 3, 1},
		{9, 3, 2}, {12, 3, 3}, {13, 3, 4}, {14, 4, 1},
	}
	for _, p := range places {
		checkPlace(t, b, p.at, p.line, p.column, api.OK)
	}
	// A line feed alone ends a line: 13 and others are code points like the rest.
	checkPlace(t, []byte("a\r\v\f\u0085\u2028b"), 9, 1, 7, api.OK)
	checkPlace(t, []byte("a\r\nb"), 4, 2, 2, api.OK)
}

// P1.3
func TestPlaceRefusesPlacesOutside(t *testing.T) {
	for _, b := range [][]byte{nil, {}, {97}, {255}, []byte("\u20ac\n"), {97, 226, 130}} {
		for _, at := range []int{math.MinInt, -1, len(b) + 1, math.MaxInt} {
			checkPlace(t, b, at, 0, 0, api.Arg)
		}
	}
}

// P1.3
func TestPlaceRefusesPlacesWithinACodePoint(t *testing.T) {
	for _, p := range points {
		b := append(append([]byte("x\n"), p.b...), 'y')
		for i := 1; i < len(p.b); i++ {
			checkPlace(t, b, 2+i, 0, 0, api.Utf)
		}
		checkPlace(t, b, 2, 2, 1, api.OK)
	}
}

// P1.3: wrong bytes are a fault of the places behind them only.
func TestPlaceBehindWrongBytes(t *testing.T) {
	for name, b := range wrong {
		t.Run(name, func(t *testing.T) {
			text := append(append([]byte("\u00e9\n\u00e9"), b...), "\nz"...)
			checkPlace(t, text, 2, 1, 2, api.OK)
			checkPlace(t, text, 5, 2, 2, api.OK)
			for at := 6; at <= len(text); at++ {
				checkPlace(t, text, at, 0, 0, api.Utf)
			}
		})
	}
}

// P1.2, P1.3: short texts of all kinds, against a count from their beginning.
func TestShortTextsAgreeWithACount(t *testing.T) {
	letters := []byte{'a', '\n', 0xc3, 0xa9, 0xe2, 0x82, 0xf0, 0x9f}
	for number := range 1 << 15 {
		text := make([]byte, 0, 5)
		for n := number; len(text) < 5; n /= len(letters) {
			text = append(text, letters[n%len(letters)])
		}
		b := text[:number%6]
		count, end := counted(b)
		if end < 0 {
			checkRight(t, b, count)
		} else {
			checkWrong(t, b, end)
		}
		for at := range len(b) + 1 {
			line, column, e := reckoned(b, at)
			checkPlace(t, b, at, line, column, e)
		}
	}
}

// counted: how many code points stand ahead of the first wrong place, and that.
func counted(b []byte) (count, wrong int) {
	for i := 0; i < len(b); count++ {
		_, size, e := fromLibrary(b[i:])
		if e != api.OK {
			return count, i
		}
		i += size
	}
	return count, -1
}

func reckoned(b []byte, at int) (line, column int, e api.Code) {
	line, column = 1, 1
	for i := 0; i < at; {
		r, size, e := fromLibrary(b[i:])
		if e != api.OK || i+size > at {
			return 0, 0, api.Utf
		}
		i += size
		column++
		if r == '\n' {
			line, column = line+1, 1
		}
	}
	return line, column, api.OK
}

// P1.4
func TestPutLeadsBackToNext(t *testing.T) {
	good := 0
	for r := int32(-70000); r <= 1200000; r++ {
		b, ok := Put([]byte{255}, r)
		if ok != utf8.ValidRune(r) {
			t.Fatalf("Put of %d: %v", r, ok)
		}
		if !ok {
			continue
		}
		good++
		if back, size, e := Next(b, 1); back != r || size != len(b)-1 || e != api.OK {
			t.Fatalf("Next behind Put of %d: %d, %d, %v", r, back, size, e)
		}
	}
	if good != 1114112-2048 {
		t.Errorf("%d code points", good)
	}
}

// P1.4
func TestNextLeadsBackToPut(t *testing.T) {
	var b [4]byte
	for number := range 1 << 24 {
		b[0], b[1], b[2], b[3] = byte(number>>16), byte(number>>8), byte(number), 0xbf
		r, size, e := Next(b[:], 0)
		if e != api.OK {
			continue
		}
		if back, ok := Put(nil, r); !ok || !bytes.Equal(back, b[:size]) {
			t.Fatalf("Put behind Next of %v: %v, %v", b, back, ok)
		}
	}
}

// R4
func TestArgumentsStay(t *testing.T) {
	b := []byte("a\u00e9\n\U0001f33fz\xff")
	kept := bytes.Clone(b)
	for at := -1; at <= len(b)+1; at++ {
		Next(b, at)
		Place(b, at)
	}
	Check(b)
	Count(b)
	Put(b, 8364)
	if !bytes.Equal(b, kept) {
		t.Errorf("%v became %v", kept, b)
	}
}
