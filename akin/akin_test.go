package akin_test

import (
	"fmt"
	"reflect"
	"strings"
	"testing"

	"akin/akin"
	"akin/api"
)

// book: a Book in which these sentences are said.
func book(t *testing.T, said ...string) *akin.Book {
	t.Helper()
	b := akin.New()
	for i, s := range said {
		if n, e, at := b.Say(s); n != i || e != api.OK || at != 0 {
			t.Fatalf("Say(%q) = %d, %d, %d", s, n, e, at)
		}
	}
	return b
}

// tell: all that a Book tells of itself.
func tell(b *akin.Book) string {
	rows, e := b.World()
	return fmt.Sprintf("%q %q %v %s %d", b.Said(), b.Classes(), b.Clash(), shown(rows), e)
}

func deep(n int) string {
	return strings.Repeat("f(", n) + "a" + strings.Repeat(")", n)
}

func TestP1BooksThatAreNone(t *testing.T) {
	var none *akin.Book
	made := book(t, "a = b")
	copied := *made
	for name, b := range map[string]*akin.Book{"nil": none, "not made": {}, "a copy": &copied} {
		for _, s := range []string{"", "a = b", "abcdefghi = a", strings.Repeat("a", 201)} {
			if n, e, at := b.Say(s); n != 0 || e != api.ErrClosed || at != 0 {
				t.Errorf("%s: Say(%q) = %d, %d, %d", name, s, n, e, at)
			}
			if f, e, at := b.Follows(s); f || e != api.ErrClosed || at != 0 {
				t.Errorf("%s: Follows(%q) = %v, %d, %d", name, s, f, e, at)
			}
			if l, e, at := b.Why(s); len(l) != 0 || e != api.ErrClosed || at != 0 {
				t.Errorf("%s: Why(%q) = %v, %d, %d", name, s, l, e, at)
			}
		}
		if rows, e := b.World(); len(rows) != 0 || e != api.ErrClosed {
			t.Errorf("%s: World() = %v, %d", name, rows, e)
		}
		if m, k := b.Mark(), b.Back(); m != api.ErrClosed || k != api.ErrClosed {
			t.Errorf("%s: Mark() = %d, Back() = %d", name, m, k)
		}
		if b.Clash() || len(b.Said()) != 0 || len(b.Classes()) != 0 {
			t.Errorf("%s: %s", name, tell(b))
		}
	}
	if got := fmt.Sprint(made.Said()); got != "[a = b]" {
		t.Errorf("the one that was copied: %s", got)
	}
}

func TestP1AnErrorChangesNothing(t *testing.T) {
	b := book(t, "f(a) = b", "b != c")
	before := tell(b)
	for _, s := range []string{"", "x = ", "x = f(y", "x = 1", "x = abcdefghi", "x = f(a, b, c, d)", "x = " + deep(13), strings.Repeat(" ", 198) + "x=y"} {
		n, e, at := b.Say(s)
		f, fe, fat := b.Follows(s)
		w, we, wat := b.Why(s)
		if n != 0 || e == api.OK || f || fe != e || fat != at || len(w) != 0 || we != e || wat != at {
			t.Errorf("%q: Say: %d, %d, %d; Follows: %v, %d, %d; Why: %v, %d, %d", s, n, e, at, f, fe, fat, w, we, wat)
		}
		if got := tell(b); got != before {
			t.Errorf("%q has changed something: %s, then %s", s, before, got)
		}
	}
}

func TestP1FollowsInABookThatClashesTellsErrors(t *testing.T) {
	b := book(t, "a != a")
	if f, e, at := b.Follows("a = "); f || e != api.ErrForm || at != 4 {
		t.Errorf("%v, %d, %d", f, e, at)
	}
}

func TestP1AllTexts(t *testing.T) {
	b := book(t, "f(a) = a", "g(a, b) != c")
	before := tell(b)
	for c := range 256 {
		for d := range 256 {
			s := string([]byte{byte(c), byte(d)})
			b.Follows(s)
			b.Follows("f" + s + "a) = b")
			b.Follows("a = " + s)
			b.Why("a = a" + s)
		}
	}
	for _, s := range []string{"f(", "f(a,", "(", ")", "a", "=", "!", "!=", ",", " ", "a=", "\x00", "\xff", "ä"} {
		for n := range 250 {
			b.Follows(strings.Repeat(s, n))
			b.Follows("a = " + strings.Repeat(s, n))
			b.Follows(deep(n) + "=" + deep(n))
			b.Why(strings.Repeat(s, n))
			b.Why(deep(n) + "=" + strings.Repeat(s, n))
			b.Why(deep(n) + "=" + deep(n))
		}
	}
	if got := tell(b); got != before {
		t.Errorf("%s, then %s", before, got)
	}
}

// fill writes over a list and its spare room.
func fill(list []string) {
	list = list[:cap(list)]
	for i := range list {
		list[i] = "mine"
	}
}

func TestP2WhatComesOutIsNew(t *testing.T) {
	b := book(t, "f(a) = b", "c = d", "f(c) = e", "a = c", "g(a) != a", "x = y", "y = z")
	before := tell(b)
	fill(b.Said())
	lists := b.Classes()
	for i := range lists {
		others := b.Classes()
		fill(others[i])
		for j := range others {
			if j != i && !reflect.DeepEqual(others[j], lists[j]) {
				t.Errorf("the lists %d and %d of one answer share memory", i, j)
			}
		}
	}
	for i := range lists[:cap(lists)] {
		lists[:cap(lists)][i] = nil
	}
	if got := tell(b); got != before {
		t.Errorf("%s, then %s", before, got)
	}
	kept := b.Said()
	if b.Say("a = y"); len(kept) != 7 || kept[6] != "y = z" || cap(kept) > 7 && kept[:8][7] == "a = y" {
		t.Errorf("an answer has changed: %q", kept)
	}
}

func TestP2BooksKnowNothingOfEachOther(t *testing.T) {
	one, other := book(t, "a = b"), book(t, "b != a")
	one.Say("b = c")
	if one.Clash() || other.Clash() {
		t.Errorf("Clash: %v, %v", one.Clash(), other.Clash())
	}
	if f, _, _ := other.Follows("b = c"); f {
		t.Errorf("what was said in one Book follows in another")
	}
	if got := tell(other); got != `["b != a"] [["a"] ["b"]] false a[]:0 b[]:1 0` {
		t.Errorf("%s", got)
	}
	if n, e, _ := other.Say("a = a"); n != 1 || e != api.OK {
		t.Errorf("the second sentence: %d, %d", n, e)
	}
}

func TestP3ErrorsAndPlaces(t *testing.T) {
	for _, c := range []struct {
		text string
		e    api.Errno
		at   int
	}{
		{"a=b", api.OK, 0},
		{" a != b ", api.OK, 0},
		{strings.Repeat(" ", 197) + "a=b", api.OK, 0},
		{"abcdefgh = f(a, b, c)", api.OK, 0},
		{deep(12) + " = a", api.OK, 0},
		{strings.Repeat(" ", 198) + "a=b", api.ErrLong, 0},
		{strings.Repeat("?", 201), api.ErrLong, 0},
		{strings.Repeat("?", 200), api.ErrForm, 0},
		{"", api.ErrForm, 0},
		{"  ", api.ErrForm, 2},
		{"a =", api.ErrForm, 3},
		{"a = 1", api.ErrForm, 4},
		{"f() = a", api.ErrForm, 2},
		{"a ! = b", api.ErrForm, 3},
		{"a !", api.ErrForm, 3},
		{"f(a ! b) = c", api.ErrForm, 4},
		{"a = b != c", api.ErrForm, 6},
		{"a\n= b", api.ErrForm, 1},
		{"a = b\x00", api.ErrForm, 5},
		{"abcdefghi = f(a", api.ErrForm, 15},
		{"abcdefghi = a", api.ErrRange, 0},
		{"a = f(b, abcdefghi)", api.ErrRange, 9},
		{" f(a, b, c, d) = abcdefghi", api.ErrRange, 1},
		{"a = " + deep(13), api.ErrRange, 30},
	} {
		b := akin.New()
		f, e, at := b.Follows(c.text)
		n, se, sat := b.Say(c.text)
		if f || e != c.e || at != c.at || n != 0 || se != c.e || sat != c.at {
			t.Errorf("%q: Follows: %v, %d, %d; Say: %d, %d, %d; want %d, %d", c.text, f, e, at, n, se, sat, c.e, c.at)
		}
	}
}

func TestP4SaidIsPlainAndInOrder(t *testing.T) {
	b := book(t, " f ( a,b ,c)=  d", "b!=g(h(b1))", "a = b", "a = b", "a != a")
	want := []string{"f(a, b, c) = d", "b != g(h(b1))", "a = b", "a = b", "a != a"}
	if got := b.Said(); !reflect.DeepEqual(got, want) {
		t.Errorf("%q, want %q", got, want)
	}
	if got := akin.New().Said(); len(got) != 0 {
		t.Errorf("of a new Book: %q", got)
	}
}

func TestP4ManySentences(t *testing.T) {
	b := akin.New()
	for i := range api.MaxSaid {
		if n, e, at := b.Say("a = b"); n != i || e != api.OK || at != 0 {
			t.Fatalf("the sentence %d: %d, %d, %d", i, n, e, at)
		}
	}
	before := tell(b)
	for _, s := range []string{"a = b", "a != b", "c = d"} {
		if n, e, at := b.Say(s); n != 0 || e != api.ErrMany || at != 0 {
			t.Errorf("one more, %q: %d, %d, %d", s, n, e, at)
		}
	}
	if n, e, at := b.Say("a = abcdefghi"); n != 0 || e != api.ErrRange || at != 4 {
		t.Errorf("it is read first: %d, %d, %d", n, e, at)
	}
	if f, e, at := b.Follows("f(a) = f(b)"); !f || e != api.OK || at != 0 {
		t.Errorf("Follows in a full Book: %v, %d, %d", f, e, at)
	}
	if got := tell(b); got != before {
		t.Errorf("%s, then %s", before, got)
	}
}

func TestP4ManyTerms(t *testing.T) {
	b := akin.New()
	for i := range 33 {
		b.Say(fmt.Sprintf("x%d = f(y%d)", i, i))
	}
	before := tell(b)
	for _, s := range []string{"x = y", "x != y", "f(x) = x0", "f(f(f(f(x0)))) = x1", "g(x0, x1, x2) = x"} {
		if n, e, at := b.Say(s); n != 0 || e != api.ErrMany || at != 0 {
			t.Errorf("more than 100 terms by %q: %d, %d, %d", s, n, e, at)
		}
		if f, e, at := b.Follows(s); f || e != api.OK || at != 0 {
			t.Errorf("its terms need not be known, %q: %v, %d, %d", s, f, e, at)
		}
		if got := tell(b); got != before {
			t.Errorf("%q: %s, then %s", s, before, got)
		}
	}
	for i, s := range []string{"x0 != x", "f(y0) = x", "x1 = y1"} {
		if n, e, at := b.Say(s); n != 33+i || e != api.OK || at != 0 {
			t.Errorf("100 terms by %q: %d, %d, %d", s, n, e, at)
		}
	}
	if n, e, at := b.Say("f(x) = x"); n != 0 || e != api.ErrMany || at != 0 {
		t.Errorf("101 terms: %d, %d, %d", n, e, at)
	}
	if f, e, _ := b.Follows("f(x) = f(f(y0))"); !f || e != api.OK {
		t.Errorf("Follows with 100 terms: %v, %d", f, e)
	}
}

func TestP5Examples(t *testing.T) {
	for _, c := range []struct {
		said    []string
		yes, no string
	}{
		{nil, "a = a; f(a) = f(a)", "a = b; a != b; a != a; f = f(a); f(a) = f(a, a)"},
		{[]string{"f(a) = a"}, "f(f(a)) = a; b = b; a = f(f(f(f(a))))", "f(b) = b; a != b; f(a) != a"},
		{[]string{"f(f(f(a))) = a", "f(f(f(f(f(a))))) = a", "b = c"}, "f(a) = a; g(b, f(a)) = g(c, a)", "a = b; a != b; f(b) = b"},
		{[]string{"g(a, b) = c", "a = b", "g(b, a) != d"}, "c != d; d != c; g(a, a) != d; h(c) = h(g(b, b))", "a != d; c != a; h(c) != h(d)"},
		{[]string{"f(a) != f(b)"}, "a != b; b != a; f(b) != f(a)", "a = b; f(a) = a; g(a) != g(b)"},
		{[]string{"a = b", "a != b"}, "a = b; a != b; x = y; x != x; f(x) = g(y, z)", ""},
	} {
		b := book(t, c.said...)
		before := tell(b)
		for _, q := range []struct {
			texts string
			want  bool
		}{{c.yes, true}, {c.no, false}} {
			for s := range strings.SplitSeq(q.texts, "; ") {
				if s == "" {
					continue
				}
				if f, e, at := b.Follows(s); f != q.want || e != api.OK || at != 0 {
					t.Errorf("from %q %q: %v, %d, %d", c.said, s, f, e, at)
				}
				if got := tell(b); got != before {
					t.Errorf("Follows(%q): %s, then %s", s, before, got)
				}
			}
		}
	}
}

func TestP5Clash(t *testing.T) {
	b := akin.New()
	for i, s := range []string{"f(f(f(a))) = a", "b = c", "a != f(a)", "f(f(f(f(f(a))))) = a", "x = x"} {
		b.Say(s)
		if got := b.Clash(); got != (i >= 3) {
			t.Errorf("with %q: %v", b.Said(), got)
		}
	}
	if !book(t, "a != a").Clash() || book(t, "a = a", "a != b").Clash() || akin.New().Clash() {
		t.Errorf("of a != a, of a = a and a != b, or of nothing")
	}
}

func TestP7Classes(t *testing.T) {
	for _, c := range []struct {
		said []string
		want [][]string
	}{
		{nil, nil},
		{[]string{"a != b"}, [][]string{{"a"}, {"b"}}},
		{[]string{"g(a, b) = c", "a = b", "g(b, a) != d"}, [][]string{{"a", "b"}, {"c", "g(a, b)", "g(b, a)"}, {"d"}}},
		{[]string{"f(f(a)) = b", "a = c", "f(c) = d", "a != a"}, [][]string{{"a", "c"}, {"b", "f(f(a))"}, {"d", "f(a)", "f(c)"}}},
		{[]string{"f(b) = f1(b)", "f(a, b) = f", "f(a) != ab"}, [][]string{{"a"}, {"ab"}, {"b"}, {"f", "f(a, b)"}, {"f(a)"}, {"f(b)", "f1(b)"}}},
		{[]string{"z = a", "b = y", "y = x"}, [][]string{{"a", "z"}, {"b", "x", "y"}}},
	} {
		b := book(t, c.said...)
		b.Follows("a = new(a, b)")
		if got := b.Classes(); len(got)+len(c.want) > 0 && !reflect.DeepEqual(got, c.want) {
			t.Errorf("of %q: %q, want %q", c.said, got, c.want)
		}
	}
}
