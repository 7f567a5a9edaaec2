package akin_test

import (
	"fmt"
	"slices"
	"strings"
	"testing"

	"akin/akin"
)

// worlds: for each world of five things, which of the terms a, b, f(a), f(b), f(f(a)) are which: as far as they differ in that.
func worlds() [][5]int {
	const things = 5
	seen := map[[5]int]int{}
	var list [][5]int
	for w := range things * things * things * things * things * things * things {
		var digits [2 + things]int
		for i := range digits {
			digits[i], w = w%things, w/things
		}
		a, b, f := digits[0], digits[1], digits[2:]
		values := [5]int{a, b, f[a], f[b], f[f[a]]}
		if seen[values] == 0 {
			seen[values] = 1
			list = append(list, values)
		}
	}
	return list
}

type fact struct {
	text        string
	equal       bool
	left, right int
}

func facts() []fact {
	texts := []string{"a", "b", "f(a)", "f(b)", "f(f(a))"}
	var list []fact
	for i := range texts {
		for j := i; j < len(texts); j++ {
			list = append(list, fact{texts[i] + " = " + texts[j], true, i, j}, fact{texts[j] + " != " + texts[i], false, i, j})
		}
	}
	return list
}

func holding(f fact, in [][5]int) [][5]int {
	var out [][5]int
	for _, w := range in {
		if (w[f.left] == w[f.right]) == f.equal {
			out = append(out, w)
		}
	}
	return out
}

// TestP5AllWorlds holds Follows and Clash against what is so in all worlds in which it is all so. (Five things are enough for five terms.)
func TestP5AllWorlds(t *testing.T) {
	all, list := worlds(), facts()
	for i := range list {
		for j := i; j < len(list); j++ {
			for k := j; k < len(list); k += 3 {
				said := []fact{list[i], list[j], list[k]}
				left := holding(said[2], holding(said[1], holding(said[0], all)))
				b := book(t, said[0].text, said[1].text, said[2].text)
				if b.Clash() != (len(left) == 0) {
					t.Fatalf("%v: Clash = %v", said, b.Clash())
				}
				for _, f := range list {
					want := len(holding(f, left)) == len(left)
					if got, _, _ := b.Follows(f.text); got != want {
						t.Fatalf("%v: Follows(%q) = %v", said, f.text, got)
					}
				}
			}
		}
	}
}

// dice: numbers that look thrown, the same ones in each run.
type dice uint32

func (d *dice) throw(n int) int {
	*d = *d*1664525 + 1013904223
	return int(*d>>8) % n
}

func (d *dice) term(depth int) string {
	count := []int{0, 0, 0, 1, 1, 1, 1, 2, 3}[d.throw(9)]
	if depth == 0 {
		count = 0
	}
	if count == 0 {
		return []string{"a", "b", "f"}[d.throw(3)]
	}
	var parts []string
	for range count {
		parts = append(parts, d.term(depth-1))
	}
	return []string{"f", "f", "g"}[d.throw(3)] + "(" + strings.Join(parts, ", ") + ")"
}

// cutTerm: a plain term's name and parts.
func cutTerm(text string) (string, []string) {
	name, rest, ok := strings.Cut(text, "(")
	if !ok {
		return text, nil
	}
	var parts []string
	depth, from := 0, 0
	for i, c := range rest {
		switch {
		case c == '(':
			depth++
		case depth == 0 && (c == ',' || c == ')'):
			parts = append(parts, strings.TrimSpace(rest[from:i]))
			from = i + 1
		case c == ')':
			depth--
		}
	}
	return name, parts
}

// drawn: the terms and which of them are equal, by the document's rules, one after the other until none gives more.
type drawn struct {
	terms []string
	equal map[[2]string]int
}

func (d *drawn) know(text string) {
	if slices.Contains(d.terms, text) {
		return
	}
	d.terms = append(d.terms, text)
	d.equal[[2]string{text, text}] = 1
	_, parts := cutTerm(text)
	for _, p := range parts {
		d.know(p)
	}
}

func (d *drawn) samePartsEqual(s, t string) bool {
	name, parts := cutTerm(s)
	other, others := cutTerm(t)
	if name != other || len(parts) != len(others) {
		return false
	}
	for i := range parts {
		if d.equal[[2]string{parts[i], others[i]}] == 0 {
			return false
		}
	}
	return true
}

func (d *drawn) byAThird(s, t string) bool {
	return slices.ContainsFunc(d.terms, func(u string) bool {
		return d.equal[[2]string{s, u}]+d.equal[[2]string{t, u}] == 2
	})
}

func (d *drawn) draw() {
	for more := true; more; {
		more = false
		for _, s := range d.terms {
			for _, t := range d.terms {
				if d.equal[[2]string{s, t}] == 0 && (d.equal[[2]string{t, s}] == 1 || d.byAThird(s, t) || d.samePartsEqual(s, t)) {
					d.equal[[2]string{s, t}] = 1
					more = true
				}
			}
		}
	}
}

func drawFrom(said [][3]string, asked ...string) *drawn {
	d := &drawn{equal: map[[2]string]int{}}
	for _, s := range said {
		d.know(s[0])
		d.know(s[2])
		if s[1] == "=" {
			d.equal[[2]string{s[0], s[2]}] = 1
		}
	}
	for _, text := range asked {
		d.know(text)
	}
	d.draw()
	return d
}

func (d *drawn) clash(said [][3]string) bool {
	return slices.ContainsFunc(said, func(s [3]string) bool {
		return s[1] == "!=" && d.equal[[2]string{s[0], s[2]}] == 1
	})
}

func (d *drawn) classes() string {
	slices.Sort(d.terms)
	var lists [][]string
	for i, s := range d.terms {
		if slices.ContainsFunc(d.terms[:i], func(t string) bool { return d.equal[[2]string{s, t}] == 1 }) {
			continue
		}
		var list []string
		for _, t := range d.terms {
			if d.equal[[2]string{s, t}] == 1 {
				list = append(list, t)
			}
		}
		lists = append(lists, list)
	}
	return fmt.Sprintf("%q", lists)
}

// TestP5P7Drawn holds Follows, Clash and Classes against what can be drawn by the document's rules.
func TestP5P7Drawn(t *testing.T) {
	d := dice(7)
	counts := map[string]int{}
	for range 500 {
		b := akin.New()
		var said [][3]string
		for range 1 + d.throw(6) {
			s := [3]string{d.term(2), []string{"=", "=", "!="}[d.throw(3)], d.term(2)}
			said = append(said, s)
			b.Say(strings.Join(s[:], " "))
		}
		known := drawFrom(said)
		if got := fmt.Sprintf("%q", b.Classes()); got != known.classes() {
			t.Fatalf("%v: %s, want %s", said, got, known.classes())
		}
		if b.Clash() != known.clash(said) {
			t.Fatalf("%v: Clash = %v", said, b.Clash())
		}
		for range 4 {
			s, u := known.terms[d.throw(len(known.terms))], d.term(1)
			if d.throw(2) == 0 {
				u = known.terms[d.throw(len(known.terms))]
			}
			more := drawFrom(said, s, u)
			equal := more.clash(said) || more.equal[[2]string{s, u}] == 1
			joined := append(slices.Clone(said), [3]string{s, "=", u})
			unequal := drawFrom(joined).clash(joined)
			f, _, _ := b.Follows(s + " = " + u)
			g, _, _ := b.Follows(s + "!=" + u)
			if f != equal || g != unequal {
				t.Fatalf("%v: %s, %s: %v, %v, want %v, %v", said, s, u, f, g, equal, unequal)
			}
			counts[fmt.Sprint(f, g)]++
		}
	}
	if counts["true false"] < 50 || counts["false true"] < 40 || counts["false false"] < 50 || counts["true true"] < 50 {
		t.Errorf("the dice throw too little of a kind: %v", counts)
	}
}
