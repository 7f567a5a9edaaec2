package akin_test

import (
	"fmt"
	"slices"
	"strings"
	"testing"

	"akin/akin"
	"akin/api"
)

// numbered: a list of numbers as text, the same for nil and for nothing.
func numbered(list []int) string {
	return fmt.Sprint(append([]int{}, list...))
}

func TestP6Why(t *testing.T) {
	for _, c := range []struct {
		said  []string
		asked string
		want  string
	}{
		{nil, "a = a", "[]"},
		{nil, "f(g(x, y)) = f(g(x, y))", "[]"},
		{[]string{"a = b", "b != c"}, "z = z", "[]"},
		{[]string{"f(a) = a"}, "f(f(f(a))) = a", "[0]"},
		{[]string{"f(f(f(a))) = a", "f(f(f(f(f(a))))) = a", "b = c"}, "f(a) = a", "[0 1]"},
		{[]string{"f(f(f(a))) = a", "f(f(f(f(f(a))))) = a", "b = c", "a != f(a)"}, "b != b", "[0 1 3]"},
		{[]string{"g(a, b) = c", "a = b", "g(b, a) != d"}, "c != d", "[0 1 2]"},
		{[]string{"g(a, b) = c", "x = y", "a = b", "y != z", "g(b, a) != d"}, "d != c", "[0 2 4]"},
		{[]string{"f(a) != f(b)", "a = b"}, "a != b", "[0]"},
		{[]string{"a = b", "f(a) != f(b)"}, "x = y", "[0 1]"},
		{[]string{"a = b", "f(a) != f(b)"}, "f(b) = f(a)", "[0]"},
		// The last ones go first, however many of those ahead are needed then.
		{[]string{"a = b", "b = c", "c = d", "a = d"}, "a = d", "[0 1 2]"},
		{[]string{"a = d", "a = b", "b = c", "c = d"}, "a = d", "[0]"},
		{[]string{"a = b", "a = b", "b = a"}, "a = b", "[0]"},
		{[]string{"a = b", "c = d", "b = c", "a = c", "b = d"}, "a = d", "[0 1 2]"},
		{[]string{"x != x", "a = b"}, "a = b", "[0]"},
		{[]string{"a = b", "x != x"}, "a = b", "[0]"},
		{[]string{"x != x", "a != a", "b != b"}, "p = q", "[0]"},
		{[]string{"a = b", "a != b", "c != c"}, "c = d", "[0 1]"},
	} {
		b := book(t, c.said...)
		before := tell(b)
		numbers, e, at := b.Why(c.asked)
		if got := numbered(numbers); got != c.want || e != api.OK || at != 0 {
			t.Errorf("from %q, why %q: %s, %d, %d, want %s", c.said, c.asked, got, e, at, c.want)
		}
		if got := tell(b); got != before {
			t.Errorf("Why(%q): %s, then %s", c.asked, before, got)
		}
	}
}

func TestP6WhatDoesNotFollow(t *testing.T) {
	for _, c := range []struct {
		said  []string
		asked string
	}{
		{nil, "a = b"},
		{nil, "a != a"},
		{nil, "a != b"},
		{[]string{"a = b"}, "a != b"},
		{[]string{"f(a) = f(b)"}, "a = b"},
		{[]string{"a != b"}, "f(a) != f(b)"},
		{[]string{"f(a) = a", "b != c"}, "f(b) = b"},
		{[]string{"f = a", "f(x) = b"}, "a = b"},
	} {
		b := book(t, c.said...)
		before := tell(b)
		if numbers, e, at := b.Why(c.asked); len(numbers) != 0 || e != api.ErrNone || at != 0 {
			t.Errorf("from %q, why %q: %v, %d, %d", c.said, c.asked, numbers, e, at)
		}
		if got := tell(b); got != before {
			t.Errorf("Why(%q): %s, then %s", c.asked, before, got)
		}
	}
}

func TestP6TheSentenceIsReadFirst(t *testing.T) {
	for _, b := range []*akin.Book{akin.New(), book(t, "a = b", "f(a) != c"), book(t, "a != a")} {
		before := tell(b)
		for _, c := range []struct {
			text string
			e    api.Errno
			at   int
		}{
			{strings.Repeat(" ", 198) + "a=a", api.ErrLong, 0},
			{"", api.ErrForm, 0},
			{"a", api.ErrForm, 1},
			{"a =", api.ErrForm, 3},
			{"a = a,", api.ErrForm, 5},
			{"abcdefghi = f(", api.ErrForm, 14},
			{"abcdefghi = abcdefghi", api.ErrRange, 0},
			{"a = f(a, b, c, d)", api.ErrRange, 4},
			{"a != " + deep(13), api.ErrRange, 31},
		} {
			if numbers, e, at := b.Why(c.text); len(numbers) != 0 || e != c.e || at != c.at {
				t.Errorf("Why(%q) = %v, %d, %d, want %d, %d", c.text, numbers, e, at, c.e, c.at)
			}
		}
		if got := tell(b); got != before {
			t.Errorf("%s, then %s", before, got)
		}
	}
}

func TestP6InAFullBook(t *testing.T) {
	b := akin.New()
	for i := range api.MaxSaid {
		b.Say(fmt.Sprintf("x%d = x%d", i, i+1))
	}
	for asked, want := range map[string]int{"x0 = x40": 40, "f(x3) = f(x5)": 2, "x40 = x40": 0, deep(12) + "=" + deep(12): 0} {
		if numbers, e, at := b.Why(asked); len(numbers) != want || e != api.OK || at != 0 {
			t.Errorf("Why(%q) = %v, %d, %d", asked, numbers, e, at)
		}
	}
	b = akin.New()
	for i := range 33 {
		b.Say(fmt.Sprintf("x%d = f(x%d, y%d)", i, i+1, i))
	}
	b.Say("x33 = x33")
	if numbers, e, at := b.Why("g(x0) = g(f(f(x2, y1), y0))"); numbered(numbers) != "[0 1]" || e != api.OK || at != 0 {
		t.Errorf("of more terms than may be known: %v, %d, %d", numbers, e, at)
	}
}

func TestP2NumbersAreNew(t *testing.T) {
	b := book(t, "a = b", "x = y", "b = c", "c = d")
	one, _, _ := b.Why("a = d")
	other, _, _ := b.Why("a = d")
	for i := range one[:cap(one)] {
		one[:cap(one)][i] = 9
	}
	again, _, _ := b.Why("a = d")
	if numbered(other) != "[0 2 3]" || numbered(again) != "[0 2 3]" {
		t.Errorf("%v, %v", other, again)
	}
	for i := range other[:cap(other)] {
		if other[:cap(other)][i] == 9 {
			t.Errorf("the spare room is shared: %v", other[:cap(other)])
		}
	}
}

// leftOut: what P6 says, word by word, with the document's rules to tell what follows.
func leftOut(said [][3]string, asked [3]string) ([]int, bool) {
	contrary := asked
	contrary[1] = map[string]string{"=": "!=", "!=": "="}[asked[1]]
	follows := func(from []int) bool {
		list := [][3]string{contrary}
		for _, number := range from {
			list = append(list, said[number])
		}
		return drawFrom(list).clash(list)
	}
	var there []int
	for number := range said {
		there = append(there, number)
	}
	if !follows(there) {
		return nil, false
	}
	for number := len(said) - 1; number >= 0; number-- {
		without := slices.DeleteFunc(slices.Clone(there), func(n int) bool { return n == number })
		if follows(without) {
			there = without
		}
	}
	return there, true
}

// noneTooMany: whether a sentence follows from these, and from none of them left out.
func noneTooMany(said [][3]string, numbers []int, asked string) bool {
	for leave := -1; leave < len(numbers); leave++ {
		b := akin.New()
		for i, number := range numbers {
			if i != leave {
				b.Say(strings.Join(said[number][:], " "))
			}
		}
		if f, _, _ := b.Follows(asked); f != (leave < 0) {
			return false
		}
	}
	return true
}

// TestP6Drawn holds Why against the promise's words, and what it answers against what the promise says of it.
func TestP6Drawn(t *testing.T) {
	d := dice(11)
	counts := map[int]int{}
	for range 250 {
		b := akin.New()
		var said [][3]string
		for range 3 + d.throw(7) {
			s := [3]string{d.term(2), []string{"=", "=", "=", "!="}[d.throw(4)], d.term(d.throw(3))}
			said = append(said, s)
			b.Say(strings.Join(s[:], " "))
		}
		terms := slices.Concat(b.Classes()...)
		for range 6 {
			asked := [3]string{terms[d.throw(len(terms))], []string{"=", "!="}[d.throw(2)], terms[d.throw(len(terms))]}
			if d.throw(4) == 0 {
				asked[2] = d.term(2)
			}
			text := strings.Join(asked[:], " ")
			want, ok := leftOut(said, asked)
			numbers, e, at := b.Why(text)
			if numbered(numbers) != numbered(want) || (e == api.OK) != ok || !ok && e != api.ErrNone || at != 0 {
				t.Fatalf("from %v, why %s: %v, %d, %d, want %v", said, text, numbers, e, at, want)
			}
			if f, _, _ := b.Follows(text); f != ok {
				t.Fatalf("from %v, %s: Follows = %v, but Why: %d", said, text, f, e)
			}
			if ok && !noneTooMany(said, numbers, text) {
				t.Fatalf("from %v, why %s: %v are too many, or too few", said, text, numbers)
			}
			if !ok {
				counts[-1]++
			} else {
				counts[len(numbers)]++
			}
		}
	}
	if counts[-1] < 50 || counts[0] < 20 || counts[1] < 50 || counts[2] < 50 || counts[3] < 30 {
		t.Errorf("the dice throw too little of a kind: %v", counts)
	}
}
