package akin_test

import (
	"fmt"
	"slices"
	"strings"
	"testing"

	"akin/akin"
	"akin/api"
)

// told: what a Book tells of itself, and what it answers to some questions.
func told(b *akin.Book, asked ...string) string {
	text := tell(b)
	for _, s := range asked {
		f, e, at := b.Follows(s)
		numbers, we, wat := b.Why(s)
		text += fmt.Sprintf("; %s: %v %d %d %s %d %d", s, f, e, at, numbered(numbers), we, wat)
	}
	return text
}

// mark and back: the call must answer this.
func mark(t *testing.T, b *akin.Book, want api.Errno) {
	t.Helper()
	if e := b.Mark(); e != want {
		t.Fatalf("Mark() = %d, want %d", e, want)
	}
}

func back(t *testing.T, b *akin.Book, want api.Errno) {
	t.Helper()
	if e := b.Back(); e != want {
		t.Fatalf("Back() = %d, want %d", e, want)
	}
}

func TestP9MarksInOneAnother(t *testing.T) {
	asked := []string{"a = b", "f(a) = f(c)", "f(f(a)) != d", "x = x", "d != b", "new(a) = new(b)"}
	b := book(t, "f(a) = b")
	var states []string
	for _, list := range [][]string{{"a = c", "b != f(c)"}, {}, {"g(f(c), d) = e"}, {"d = b", "f(f(f(f(a)))) = a", "x != y"}, {"a = b", "g(b, b) != e"}, {"f(f(a)) != d"}} {
		states = append(states, told(b, asked...))
		mark(t, b, api.OK)
		for _, s := range list {
			if _, e, _ := b.Say(s); e != api.OK {
				t.Fatalf("Say(%q): %d", s, e)
			}
		}
	}
	for i, want := range slices.Backward(states) {
		back(t, b, api.OK)
		if got := told(b, asked...); got != want {
			t.Errorf("back to the mark %d: %s, want %s", i+1, got, want)
		}
	}
	back(t, b, api.ErrNone)
	if got, want := told(b, asked...), told(book(t, "f(a) = b"), asked...); got != want {
		t.Errorf("what was said ahead of all marks: %s, want %s", got, want)
	}
}

func TestP9WhatIsSaidBehindABack(t *testing.T) {
	b := book(t, "f(a) = a")
	mark(t, b, api.OK)
	b.Say("b = a")
	b.Say("f(b) != c")
	back(t, b, api.OK)
	for i, s := range []string{"f(f(c)) = b", "b = c"} {
		if n, e, at := b.Say(s); n != i+1 || e != api.OK || at != 0 {
			t.Errorf("Say(%q) = %d, %d, %d", s, n, e, at)
		}
	}
	asked := []string{"a = b", "f(b) = f(c)", "f(b) != c", "f(f(f(c))) = f(c)"}
	if got, want := told(b, asked...), told(book(t, "f(a) = a", "f(f(c)) = b", "b = c"), asked...); got != want {
		t.Errorf("%s, want %s", got, want)
	}
	mark(t, b, api.OK)
	b.Say("a = b")
	mark(t, b, api.OK)
	b.Say("a != c")
	back(t, b, api.OK)
	if got, want := told(b, asked...), told(book(t, "f(a) = a", "f(f(c)) = b", "b = c", "a = b"), asked...); got != want {
		t.Errorf("%s, want %s", got, want)
	}
}

func TestP9TheTenthMarkAndTheEleventh(t *testing.T) {
	b := akin.New()
	for i := range api.MaxMarks {
		mark(t, b, api.OK)
		b.Say(fmt.Sprintf("x%d = x%d", i, i+1))
	}
	before := tell(b)
	for range 3 {
		mark(t, b, api.ErrMany)
	}
	if got := tell(b); got != before {
		t.Errorf("%s, then %s", before, got)
	}
	b.Say("a = b")
	back(t, b, api.OK)
	if got := len(b.Said()); got != 9 {
		t.Errorf("a mark that was not set counts: %q are said", b.Said())
	}
	mark(t, b, api.OK)
	mark(t, b, api.ErrMany)
	b.Say("a = b")
	for left := 9; left >= 0; left-- {
		back(t, b, api.OK)
		if got := len(b.Said()); got != left {
			t.Errorf("%q are said, want %d", b.Said(), left)
		}
	}
	back(t, b, api.ErrNone)
}

func TestP9BackWithNoMark(t *testing.T) {
	back(t, akin.New(), api.ErrNone)
	b := book(t, "a = b", "f(a) != c")
	before := told(b, "f(b) != c")
	back(t, b, api.ErrNone)
	if got := told(b, "f(b) != c"); got != before {
		t.Errorf("%s, then %s", before, got)
	}
	mark(t, b, api.OK)
	back(t, b, api.OK)
	back(t, b, api.ErrNone)
	back(t, b, api.ErrNone)
	if got := told(b, "f(b) != c"); got != before {
		t.Errorf("%s, then %s", before, got)
	}
	mark(t, b, api.OK)
	back(t, b, api.OK)
}

func TestP9MarksAtOnePlace(t *testing.T) {
	b := book(t, "a = b")
	mark(t, b, api.OK)
	mark(t, b, api.OK)
	mark(t, b, api.OK)
	b.Say("b = c")
	for range 3 {
		back(t, b, api.OK)
		if got := fmt.Sprint(b.Said()); got != "[a = b]" {
			t.Errorf("%s", got)
		}
	}
	back(t, b, api.ErrNone)
}

func TestP9AskingBetweenAMarkAndItsBack(t *testing.T) {
	b := book(t, "f(f(f(a))) = a")
	before := told(b, "f(a) = a", "f(b) = b")
	mark(t, b, api.OK)
	b.Follows("f(a) != g(x, y)")
	b.Why("f(f(f(f(a)))) = f(a)")
	b.Say("f(f(f(f(f(a))))) = a")
	mark(t, b, api.OK)
	b.Follows("f(a) = a")
	b.Why("f(a) = a")
	b.Say("a != f(a)")
	b.Why("b != b")
	b.World()
	b.Classes()
	back(t, b, api.OK)
	b.Why("f(a) = a")
	if got, want := told(b, "f(a) = a", "b != b"), told(book(t, "f(f(f(a))) = a", "f(f(f(f(f(a))))) = a"), "f(a) = a", "b != b"); got != want {
		t.Errorf("%s, want %s", got, want)
	}
	back(t, b, api.OK)
	if got := told(b, "f(a) = a", "f(b) = b"); got != before {
		t.Errorf("%s, then %s", before, got)
	}
}

func TestP9OutOfAClash(t *testing.T) {
	b := book(t, "f(a) = b", "c != f(d)", "b = c")
	before := told(b, "a = d", "a != d", "x = y")
	mark(t, b, api.OK)
	b.Say("a = d")
	rows, e := b.World()
	if !b.Clash() || len(rows) != 0 || e != api.ErrClash {
		t.Fatalf("it does not clash: %s", tell(b))
	}
	mark(t, b, api.OK)
	b.Say("x = y")
	back(t, b, api.OK)
	if !b.Clash() {
		t.Errorf("it does not clash any more: %s", tell(b))
	}
	back(t, b, api.OK)
	if got := told(b, "a = d", "a != d", "x = y"); got != before || b.Clash() {
		t.Errorf("%s, then %s", before, got)
	}
}

func TestP9WrongSentencesBetween(t *testing.T) {
	b := book(t, "f(a) = b")
	before := told(b, "a = b")
	mark(t, b, api.OK)
	for _, s := range []string{"", "x = ", "x = f(y", "x = abcdefghi", strings.Repeat(" ", 201)} {
		b.Say(s)
		b.Follows(s)
		b.Why(s)
	}
	b.Say("a = b")
	b.Say("a = 1")
	back(t, b, api.OK)
	if got := told(b, "a = b"); got != before {
		t.Errorf("%s, then %s", before, got)
	}
	back(t, b, api.ErrNone)
}

func TestP9RoomForSentencesComesBack(t *testing.T) {
	b := akin.New()
	for range api.MaxSaid - 2 {
		b.Say("a = b")
	}
	before := tell(b)
	mark(t, b, api.OK)
	for round := range 3 {
		for i, s := range []string{"b = c", "d != a"} {
			if n, e, at := b.Say(s); n != api.MaxSaid-2+i || e != api.OK || at != 0 {
				t.Errorf("round %d: Say(%q) = %d, %d, %d", round, s, n, e, at)
			}
		}
		if n, e, at := b.Say("a = b"); n != 0 || e != api.ErrMany || at != 0 {
			t.Errorf("round %d: one more: %d, %d, %d", round, n, e, at)
		}
		mark(t, b, api.OK)
		back(t, b, api.OK)
		back(t, b, api.OK)
		if got := tell(b); got != before {
			t.Errorf("round %d: %s, then %s", round, before, got)
		}
		mark(t, b, api.OK)
	}
}

func TestP9RoomForTermsComesBack(t *testing.T) {
	b := akin.New()
	for i := range 32 {
		b.Say(fmt.Sprintf("x%d = f(y%d)", i, i))
	}
	before := told(b, "x0 = x1", "y0 != y1")
	for round := range 3 {
		mark(t, b, api.OK)
		for _, s := range []string{"f(f(f(f(x)))) = y0", "g(x, y) = h(z, y)", "x0 != " + deep(12)} {
			if n, e, at := b.Say(s); n != 0 || e != api.ErrMany || at != 0 {
				t.Errorf("round %d: more than 100 terms by %q: %d, %d, %d", round, s, n, e, at)
			}
		}
		for i, s := range []string{"f(f(f(f(y0)))) = y1", "x0 != x", "y0 = y1"} {
			if n, e, at := b.Say(s); n != 32+i || e != api.OK || at != 0 {
				t.Errorf("round %d: 100 terms by %q: %d, %d, %d", round, s, n, e, at)
			}
		}
		full := tell(b)
		mark(t, b, api.OK)
		if n, e, at := b.Say("z != z"); n != 0 || e != api.ErrMany || at != 0 {
			t.Errorf("round %d: 101 terms: %d, %d, %d", round, n, e, at)
		}
		back(t, b, api.OK)
		if got := tell(b); got != full {
			t.Errorf("round %d: %s, then %s", round, full, got)
		}
		back(t, b, api.OK)
		if got := told(b, "x0 = x1", "y0 != y1"); got != before {
			t.Errorf("round %d: %s, then %s", round, before, got)
		}
	}
}

func TestP9BooksThatAreNone(t *testing.T) {
	var none *akin.Book
	made := book(t, "a = b")
	mark(t, made, api.OK)
	made.Say("b = c")
	copied := *made
	for _, b := range []*akin.Book{none, {}, &copied} {
		back(t, b, api.ErrClosed)
		for range api.MaxMarks + 1 {
			mark(t, b, api.ErrClosed)
		}
		back(t, b, api.ErrClosed)
	}
	if got := fmt.Sprint(made.Said()); got != "[a = b b = c]" {
		t.Errorf("the one that was copied: %s", got)
	}
	back(t, made, api.OK)
	back(t, made, api.ErrNone)
}

func TestP2MarksOfOneBookAreNotAnothers(t *testing.T) {
	one, other := book(t, "a = b"), book(t, "a = b")
	for range api.MaxMarks {
		mark(t, one, api.OK)
	}
	back(t, other, api.ErrNone)
	mark(t, other, api.OK)
	other.Say("b = c")
	one.Say("c = d")
	back(t, one, api.OK)
	if got := fmt.Sprint(one.Said(), other.Said()); got != "[a = b] [a = b b = c]" {
		t.Errorf("%s", got)
	}
	back(t, other, api.OK)
	back(t, other, api.ErrNone)
	back(t, one, api.OK)
}

func TestP2WhatCameOutStaysBehindABack(t *testing.T) {
	b := book(t, "g(a, b) = c")
	mark(t, b, api.OK)
	b.Say("a = b")
	b.Say("g(b, a) != d")
	said, classes := b.Said(), b.Classes()
	numbers, _, _ := b.Why("c != d")
	rows, _ := b.World()
	answers := func() string { return fmt.Sprintf("%q %q %v %s", said, classes, numbers, shown(rows)) }
	before := answers()
	back(t, b, api.OK)
	b.Say("d != a")
	b.Say("h(c, d) = x")
	b.Say("b = c")
	if got := answers(); got != before {
		t.Errorf("%s, then %s", before, got)
	}
	want := tell(b)
	fill(said)
	for i := range classes {
		fill(classes[i])
	}
	for i := range rows {
		rows[i] = api.Row{Name: "mine", Args: rows[i].Args, Value: 99}
		for j := range rows[i].Args {
			rows[i].Args[j] = 99
		}
	}
	if got := tell(b); got != want {
		t.Errorf("%s, then %s", want, got)
	}
}

// TestP9Drawn says, marks and takes back as the dice fall, and holds the Book against a new one in which only what is left was said.
func TestP9Drawn(t *testing.T) {
	d := dice(17)
	counts := map[string]int{}
	for range 40 {
		b := akin.New()
		var said []string
		var marks []int
		for range 120 {
			fresh := book(t, said...)
			switch k := d.throw(12); {
			case k < 2:
				want := api.OK
				if len(marks) == api.MaxMarks {
					want = api.ErrMany
				} else {
					marks = append(marks, len(said))
				}
				mark(t, b, want)
				counts[fmt.Sprint("mark ", want)]++
			case k < 4 && (len(marks) > 0 || k == 2):
				want := api.ErrNone
				if last := len(marks) - 1; last >= 0 {
					want, said, marks = api.OK, said[:marks[last]:marks[last]], marks[:last]
					fresh = book(t, said...)
				}
				back(t, b, want)
				counts[fmt.Sprint("back ", want)]++
			default:
				s := d.term(1+d.throw(4)) + []string{" = ", " != "}[d.throw(8)/5] + d.term(2)
				n, e, at := b.Say(s)
				if wn, we, wat := fresh.Say(s); n != wn || e != we || at != wat {
					t.Fatalf("%q: Say(%q) = %d, %d, %d, want %d, %d, %d", said, s, n, e, at, wn, we, wat)
				}
				if e == api.OK {
					said = append(said, s)
				}
				counts[fmt.Sprint("say ", e)]++
			}
			asked := d.term(2) + []string{" = ", " != "}[d.throw(2)] + d.term(1)
			if got, want := told(b, asked), told(fresh, asked); got != want {
				t.Fatalf("%s, want %s", got, want)
			}
		}
	}
	for _, kind := range []string{"mark 0", "mark 4", "back 0", "back 5", "say 0", "say 4"} {
		if counts[kind] < 10 {
			t.Errorf("the dice throw too little of a kind: %v", counts)
			break
		}
	}
}
