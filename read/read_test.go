package read

import (
	"reflect"
	"strings"
	"testing"
)

func TestReadMakesTerms(t *testing.T) {
	a := Term{Name: "a", At: 6}
	left := Term{Name: "f", At: 2, Parts: []Term{a, {Name: "b1", At: 10}}}
	right := Term{Name: "g", At: 16, Parts: []Term{{Name: "h", At: 18, Parts: []Term{{Name: "c", At: 20}}}}}
	s, fault, at := Read("  f ( a , b1 )!=g(h(c))  ")
	if want := (Sentence{left, Unequal, right}); !reflect.DeepEqual(s, want) || fault != Fine || at != 0 {
		t.Errorf("%+v, %d, %d, want %+v", s, fault, at, want)
	}
	if s, _, _ := Read("a=b"); s.Sign != Equal {
		t.Errorf("a=b: the sign %d", s.Sign)
	}
}

func TestContrary(t *testing.T) {
	s, _, _ := Read("f(a) = b")
	c := s.Contrary()
	if c.Sign != Unequal || !reflect.DeepEqual(c.Left, s.Left) || !reflect.DeepEqual(c.Right, s.Right) {
		t.Errorf("the contrary of %+v: %+v", s, c)
	}
	if !reflect.DeepEqual(c.Contrary(), s) {
		t.Errorf("the contrary's contrary: %+v", c.Contrary())
	}
}

func TestRangeFaults(t *testing.T) {
	deep := func(n int) string { return strings.Repeat("f(", n) + "a" + strings.Repeat(")", n) }
	for _, c := range []struct {
		text  string
		fault Fault
		at    int
	}{
		{"abcdefgh = a", Fine, 0},
		{"abcdefghi = a", LongName, 0},
		{"a = a2345678", Fine, 0},
		{"a = a23456789", LongName, 4},
		{"f(a, b, c) = a", Fine, 0},
		{"f(a, b, c, d) = a", ManyParts, 0},
		{"g(f(a, b, c, d)) = a", ManyParts, 2},
		{"f(abcdefghi, b, c, d) = a", ManyParts, 0},
		{"f(abcdefghi, g(a, b, c, d)) = a", LongName, 2},
		{"f(g(a, b, c, d), abcdefghi) = a", ManyParts, 2},
		{"a = f(b, abcdefghi)", LongName, 9},
		{"abcdefghi = f(a, b, c, d)", LongName, 0},
		{"f(a, b, c, d) = abcdefghi", ManyParts, 0},
		{deep(12) + " = a", Fine, 0},
		{deep(13) + " = a", TooDeep, 26},
		{deep(14) + " = a", TooDeep, 26},
		{"a = " + deep(13), TooDeep, 30},
		{"f(" + deep(11) + ", " + deep(12) + ") = a", TooDeep, 62},
		{deep(13) + " = abcdefghi", TooDeep, 26},
		{"abcdefghi = " + deep(13), LongName, 0},
	} {
		if s, fault, at := Read(c.text); fault != c.fault || at != c.at || fault != Fine && !reflect.DeepEqual(s, Sentence{}) {
			t.Errorf("%q: %+v, %d, %d, want %d, %d", c.text, s, fault, at, c.fault, c.at)
		}
	}
}

func TestFaultsInTheirOrder(t *testing.T) {
	for _, c := range []struct {
		text  string
		fault Fault
		at    int
	}{
		{strings.Repeat(" ", 197) + "a=b", Fine, 0},
		{strings.Repeat(" ", 198) + "a=b", TooLong, 0},
		{strings.Repeat("A", 200), BadForm, 0},
		{strings.Repeat("A", 201), TooLong, 0},
		{strings.Repeat(" ", 200), BadForm, 200},
		{"abcdefghi = 1", BadForm, 12},
		{strings.Repeat("f(", 100), BadForm, 200},
	} {
		if _, fault, at := Read(c.text); fault != c.fault || at != c.at {
			t.Errorf("%q: %d, %d, want %d, %d", c.text, fault, at, c.fault, c.at)
		}
	}
}

// The states of a check that goes byte by byte, with no words.
const (
	wantsName = iota
	inName
	behindName
	behindTerm
	behindBang
)

// badPlace is the place of the first byte that can't stand where it stands, or the length, if the text ends too early; -1, if it is a sentence.
func badPlace(text string) int {
	state, depth, signs := wantsName, 0, 0
	for i := range len(text) {
		c := text[i]
		letter, digit := strings.IndexByte("abcdefghijklmnopqrstuvwxyz", c) >= 0, strings.IndexByte("0123456789", c) >= 0
		isBehind := state == inName || state == behindName || state == behindTerm
		switch {
		case letter && (state == wantsName || state == inName), digit && state == inName:
			state = inName
		case c == ' ' && state == inName:
			state = behindName
		case c == ' ' && state != behindBang:
		case c == '(' && (state == inName || state == behindName):
			state, depth = wantsName, depth+1
		case c == ',' && isBehind && depth > 0:
			state = wantsName
		case c == ')' && isBehind && depth > 0:
			state, depth = behindTerm, depth-1
		case c == '!' && isBehind && depth == 0 && signs == 0:
			state = behindBang
		case c == '=' && (state == behindBang || isBehind && depth == 0 && signs == 0):
			state, signs = wantsName, 1
		default:
			return i
		}
	}
	if depth > 0 || signs == 0 || state == wantsName || state == behindBang {
		return len(text)
	}
	return -1
}

func checkForm(t *testing.T, text string) {
	t.Helper()
	_, fault, at := Read(text)
	want := badPlace(text)
	if want >= 0 && (fault != BadForm || at != want) || want < 0 && (fault != Fine || at != 0) {
		t.Fatalf("%q: %d, %d, want the place %d", text, fault, at, want)
	}
}

func TestFormOfAllShortTexts(t *testing.T) {
	var grow func(text string, more int)
	grow = func(text string, more int) {
		checkForm(t, text)
		for _, c := range "a(),=! 1B" {
			if more > 0 {
				grow(text+string(c), more-1)
			}
		}
	}
	grow("", 6)
}

func TestFormOfTextsNearASentence(t *testing.T) {
	for _, text := range []string{"f(a, g1(b), c) = h(f(a, b))", " f ( a ,b )  !=  c ", "a!=b", "f(f(f(a)))=g(a,b)"} {
		checkForm(t, text)
		for i := range len(text) {
			checkForm(t, text[:i])
			checkForm(t, text[i:])
			checkForm(t, text[:i]+text[i+1:])
			for c := range 256 {
				checkForm(t, text[:i]+string([]byte{byte(c)})+text[i+1:])
				checkForm(t, text[:i]+string([]byte{byte(c)})+text[i:])
			}
		}
	}
}
