package parse

import (
	"slices"
	"strconv"
	"strings"
	"testing"

	"rowan/api"
)

// checkModule: are the definitions of a text these: a name and a text, and so on?
func checkModule(t *testing.T, text string, want ...string) {
	t.Helper()
	l, at, e := Module([]byte(text))
	var got []string
	for _, d := range l {
		got = append(got, d.Name, string(d.Text))
	}
	if at != 0 || e != api.OK || !slices.Equal(got, want) {
		t.Errorf("Module of %.100q: %.300q, %d, %v; want %.300q", text, got, at, e, want)
	}
}

func checkModuleFault(t *testing.T, text string, at int, e api.Code) {
	t.Helper()
	l, gotAt, gotE := Module([]byte(text))
	if len(l) != 0 || gotAt != at || gotE != e {
		t.Errorf("Module of %.100q: %v, %d, %v; want none, %d, %v", text, l, gotAt, gotE, at, e)
	}
}

// P6.2
func TestModule(t *testing.T) {
	checkModule(t, "")
	checkModule(t, " \n# def a = 1\n")
	checkModule(t, "def a = 1", "a", " 1")
	checkModule(t, "def a=1", "a", "1")
	checkModule(t, " def # one\n a # two\n = # three\n 1 # four", "a", " # three\n 1 # four")
	checkModule(t, "def a = 1 def b = a + 1\ndef c = b\n", "a", " 1 ", "b", " a + 1\n", "c", " b\n")
	checkModule(t, "def b = 1 def a = 2 def aa = 3", "b", " 1 ", "a", " 2 ", "aa", " 3")
	checkModule(t, "def a = # def b = 2\n1 # def a = 1", "a", " # def b = 2\n1 # def a = 1")
	checkModule(t, "def a = 1# \u20ac\ndef b = 2", "a", " 1# \u20ac\n", "b", " 2")
	checkModule(t, "def get = fun r => r.l def a = get {k = 1, l = true}", "get", " fun r => r.l ", "a", " get {k = 1, l = true}")
	checkModule(t, "def "+strings.Repeat("a", 32)+"=1", strings.Repeat("a", 32), "1")
}

// P6.2: what stands between is of any kind, or nothing.
func TestModuleOfTextsThatAreNoExpressions(t *testing.T) {
	checkModule(t, "def a =", "a", "")
	checkModule(t, "def a = ", "a", " ")
	checkModule(t, "def a =def b=", "a", "", "b", "")
	checkModule(t, "def a = def b = def c = 1", "a", " ", "b", " ", "c", " 1")
	checkModule(t, "def a = ) = => fun fun 1 ? Int } end def b = == def_", "a", " ) = => fun fun 1 ? Int } end ", "b", " == def_")
	checkModule(t, "def a = (b def b = c)", "a", " (b ", "b", " c)")
	checkModule(t, "def a = b = 1", "a", " b = 1")
	checkModule(t, "def a = "+strings.Repeat("(", 500), "a", " "+strings.Repeat("(", 500))
	checkModule(t, "def a = "+strings.Repeat("1 ", 8000), "a", " "+strings.Repeat("1 ", 8000))
	checkModule(t, "def a=defx def b=x.def1", "a", "defx ", "b", "x.def1")
}

// P6.2: as many as there are.
func TestModuleOfManyDefinitions(t *testing.T) {
	var text strings.Builder
	var want []string
	for i := range 5000 {
		name := "a" + strconv.Itoa(i)
		text.WriteString("def " + name + "=1 ")
		want = append(want, name, "1 ")
	}
	checkModule(t, text.String(), want...)
	checkModuleFault(t, text.String()+"def a4999=1", text.Len()+4, api.Name)
	checkModuleFault(t, text.String()+"def a5000", text.Len()+9, api.Syntax)
}

// P6.2
func TestModuleTellsWhatShouldStandThere(t *testing.T) {
	for _, text := range []string{
		"~a = 1", " # x\n ~1", "~= 1", "~fun", "~(def a = 1)", "~) def a = 1",
		"def~", "def ~", "def ~def a = 1", "def ~= 1", "def ~1 = 1", "def ~fun = 1", "def ~Int = 1", "def ~(a) = 1", "def ~# a", "def # a\n ~= 1",
		"def a~", "def a ~", "def a ~a = 1", "def a ~x => 1", "def a ~== 1", "def a ~=> 1", "def a ~:= 1", "def a ~: Int = 1", "def a ~1", "def a ~def b = 1",
		"def a = 1 def ~def b = 1", "def a = 1 def b ~", "def a = 1 def ~", "def a = def b ~c = def", "def a = 1 def ~if = 1",
		"def a ~b def a = 1 def a = 1",
	} {
		at := strings.Index(text, "~")
		text = strings.Replace(text, "~", "", 1)
		if strings.HasPrefix(text[at:], "# ") { // the first token behind the remark
			at = len(text)
		}
		checkModuleFault(t, text, at, api.Syntax)
	}
}

// P6.2: of this and a wrong token, what comes first in the text.
func TestModuleTellsNamesThatAreThere(t *testing.T) {
	checkModuleFault(t, "def a = 1 def a = 2", 14, api.Name)
	checkModuleFault(t, "def a = 1 def b = 2 def a = 3", 24, api.Name)
	checkModuleFault(t, "def a = 1 def b = 2 def b = 3 def a = 4", 24, api.Name)
	checkModuleFault(t, "def a = def a =", 12, api.Name)
	checkModuleFault(t, "def a = 1 def # b\n a", 19, api.Name)
	checkModuleFault(t, "def a = 1 def a", 14, api.Name)
	checkModuleFault(t, "def a = 1 def a 2", 14, api.Name)
	checkModuleFault(t, "def a = 1 def a = 2 def def", 14, api.Name)
	checkModuleFault(t, "def a = 1 def b 2 def a = 3", 16, api.Syntax)
	checkModuleFault(t, "def a = 1 def = 2 def a = 3", 14, api.Syntax)
	checkModule(t, "def a = 1 def ab = 2 def a_ = 3 def b = a", "a", " 1 ", "ab", " 2 ", "a_", " 3 ", "b", " a")
}

// P6.2: Tokens' errors come ahead of all others.
func TestModuleTellsTokensErrors(t *testing.T) {
	checkModuleFault(t, "a !", 2, api.Strange)
	checkModuleFault(t, "def a = 1 def a = 01", 18, api.Strange)
	checkModuleFault(t, "def A = 1", 4, api.Strange)
	checkModuleFault(t, "def a = 1 # \xff", 12, api.Utf)
	checkModuleFault(t, "def "+strings.Repeat("a", 33)+" = 1", 4, api.Large)
	checkModuleFault(t, "def a = 9223372036854775808", 8, api.Large)
	checkModuleFault(t, "x"+strings.Repeat(" ", api.MaxSource), 0, api.Large)
	rest := strings.Repeat(" ", api.MaxSource-7)
	checkModule(t, "def a ="+rest, "a", rest)
	checkModuleFault(t, "def a = "+rest, 0, api.Large)
}

// R1
func TestNilTexts(t *testing.T) {
	if l, at, e := Module(nil); len(l) != 0 || at != 0 || e != api.OK {
		t.Errorf("Module of nil: %v, %d, %v", l, at, e)
	}
	if x, l, at, e := Expr(nil); dump(x) != zero || len(l) != 0 || at != 0 || e != api.Syntax {
		t.Errorf("Expr of nil: %s, %v, %d, %v", dump(x), l, at, e)
	}
}

// R1, R2: bytes of any kind end, and with an error all else is zero.
func TestAnyBytes(t *testing.T) {
	g := newGrower()
	pieces := append(slices.Clone(anyToken), "word", "x", "\xff", "# a\n", "'", "0", "00", "A", "\u20ac", "def a =", "def b =")
	for range 4000 {
		var text strings.Builder
		for range g.IntN(12) {
			text.WriteString(among(g, pieces...) + among(g, "", " "))
		}
		b := []byte(text.String())
		x, places, at, e := Expr(b)
		if (dump(x) == zero) != (e != api.OK) || (len(places) == 0) != (e != api.OK) || e == api.OK && at != 0 || at > len(b) {
			t.Errorf("Expr of %q: %s, %v, %d, %v", b, dump(x), places, at, e)
		}
		l, at, e := Module(b)
		if e != api.OK && len(l) != 0 || e == api.OK && at != 0 || at > len(b) {
			t.Errorf("Module of %q: %v, %d, %v", b, l, at, e)
		}
	}
}

// R4: what is handed in stays, what is told is new memory.
func TestModuleTellsNewMemory(t *testing.T) {
	text := []byte("def a = 1 def b =def c = 2")
	kept := slices.Clone(text)
	one, _, _ := Module(text)
	other, _, _ := Module(text)
	if !slices.Equal(text, kept) {
		t.Fatalf("%q became %q", kept, text)
	}
	for i := range text {
		text[i] = 'z'
	}
	for i := range other {
		_ = append(other[i].Text, "spoiled"...)
		for j := range other[i].Text {
			other[i].Text[j] = '!'
		}
	}
	for i, want := range []string{" 1 ", "", " 2"} {
		if string(one[i].Text) != want {
			t.Errorf("text %d is %q now; want %q", i, one[i].Text, want)
		}
		_ = append(one[i].Text, "spoiled"...)
	}
}

// R4
func TestExprTellsNewMemory(t *testing.T) {
	s := "fun (x : {b:Int,a:?}) y => {a = 1, b := case x of a y => y.a; else z => (z : <a:?>) end | x}"
	s = strings.Replace(s, ", b :=", " | {b :=", 1) + "}"
	text := []byte(s)
	one, places, _, e := Expr(text)
	if string(text) != s || e != api.OK {
		t.Fatalf("%q became %q, %v", s, text, e)
	}
	want, wantPlaces := dump(one), slices.Clone(places)
	for i := range text {
		text[i] = 'z'
	}
	other, otherPlaces, _, _ := Expr([]byte(s))
	spoil(&other)
	for i := range otherPlaces {
		otherPlaces[i] = -7
	}
	again, againPlaces, _, _ := Expr([]byte(s))
	if dump(one) != want || dump(again) != want || !slices.Equal(places, wantPlaces) || !slices.Equal(againPlaces, wantPlaces) {
		t.Errorf("%s is %s now, and %s; its places are %v, and %v", want, dump(one), dump(again), places, againPlaces)
	}
}

func spoil(t *api.Term) {
	for i := range t.Kids {
		spoil(&t.Kids[i])
		t.Kids[i] = api.Term{Op: api.EUpd, Name: "spoiled", N: -7}
	}
	for i := range t.Ann.Kids {
		t.Ann.Kids[i] = api.Type{Op: api.TVar, N: -7}
	}
	_ = append(t.Kids, *t)
}
