package akin_test

import (
	"fmt"
	"reflect"
	"slices"
	"strings"
	"testing"

	"akin/akin"
	"akin/api"
)

// shown: the rows as text.
func shown(rows []api.Row) string {
	var out []string
	for _, r := range rows {
		out = append(out, fmt.Sprintf("%s%v:%d", r.Name, append([]int{}, r.Args...), r.Value))
	}
	return strings.Join(out, " ")
}

func TestP8World(t *testing.T) {
	for _, c := range []struct {
		said []string
		want string
	}{
		{nil, ""},
		{[]string{"a = a"}, "a[]:0"},
		{[]string{"b != a"}, "a[]:0 b[]:1"},
		{[]string{"g(a, b) = c", "a = b", "g(b, a) != d"}, "a[]:0 b[]:0 c[]:1 d[]:2 g[0 0]:1"},
		{[]string{"f(f(f(a))) = a", "f(f(f(f(f(a))))) = a", "f(b) != b"}, "a[]:0 b[]:1 f[0]:0 f[1]:2"},
		// One name, by how many Args there are, whatever these are.
		{[]string{"f(z) = f(a, a)", "f(a, a, a) != f"}, "a[]:0 f[]:1 f[4]:2 f[0 0]:2 f[0 0 0]:3 z[]:4"},
		// By names, byte by byte: a shorter one ahead of those that begin by it, digits ahead of letters.
		{[]string{"fa(x) = f1(x)", "f(x) != g", "ea(x) = f"}, "ea[4]:0 f[]:0 f[4]:1 f1[4]:2 fa[4]:2 g[]:3 x[]:4"},
		// By the Args, number by number, the first one first.
		{[]string{"g(b, a) != g(a, b)", "g(b, b) != g(a, a)"}, "a[]:0 b[]:1 g[0 0]:2 g[0 1]:3 g[1 0]:4 g[1 1]:5"},
	} {
		b := book(t, c.said...)
		before := tell(b)
		rows, e := b.World()
		if got := shown(rows); got != c.want || e != api.OK {
			t.Errorf("of %q: %s, %d, want %s", c.said, got, e, c.want)
		}
		if got := tell(b); got != before {
			t.Errorf("%s, then %s", before, got)
		}
	}
}

func TestP8ArgsAreOrderedAsNumbers(t *testing.T) {
	b := akin.New()
	for c := 'a'; c <= 'l'; c++ {
		b.Say(fmt.Sprintf("m(%c) != n(%c, a)", c, c))
	}
	rows, e := b.World()
	var places []int
	for _, r := range rows {
		if r.Name == "m" {
			places = append(places, r.Args[0])
		}
	}
	if want := []int{0, 1, 2, 3, 4, 5, 6, 7, 8, 9, 10, 11}; e != api.OK || !reflect.DeepEqual(places, want) {
		t.Errorf("%v, %d, want %v", places, e, want)
	}
}

func TestP8Clash(t *testing.T) {
	for _, said := range [][]string{{"a != a"}, {"x = y", "a = b", "f(a) != f(b)"}, {"f(f(f(a))) = a", "a != f(a)", "f(f(f(f(f(a))))) = a"}} {
		b := book(t, said...)
		before := tell(b)
		if rows, e := b.World(); len(rows) != 0 || e != api.ErrClash {
			t.Errorf("of %q: %s, %d", said, shown(rows), e)
		}
		if got := tell(b); got != before {
			t.Errorf("%s, then %s", before, got)
		}
	}
}

func TestP8OnlyWhatIsKnownIsInIt(t *testing.T) {
	b := book(t, "f(a) = a")
	b.Follows("f(b) = g(a)")
	b.Why("g(a) = g(f(a))")
	b.Say("f(b) = ")
	if rows, e := b.World(); shown(rows) != "a[]:0 f[0]:0" || e != api.OK {
		t.Errorf("%s, %d", shown(rows), e)
	}
}

func TestP8InAFullBook(t *testing.T) {
	b := akin.New()
	for i := range 33 {
		b.Say(fmt.Sprintf("x%d != f(y%d)", i, i))
	}
	b.Say("x0 != z")
	if rows, e := b.World(); len(rows) != api.MaxTerms || e != api.OK {
		t.Errorf("%d rows, %d", len(rows), e)
	}
}

func TestP2RowsAreNew(t *testing.T) {
	b := book(t, "g(a, b, c) = f(a)", "g(b, a, c) = f(b)", "a = d", "g(d, b, c) != h(d, c)", "f(d) != f(c)")
	want, _ := b.World()
	for i := range want {
		rows, _ := b.World()
		args := rows[i].Args[:cap(rows[i].Args)]
		for j := range args {
			args[j] = 99
		}
		for j := range rows {
			if j != i && !reflect.DeepEqual(rows[j], want[j]) || slices.Contains(rows[j].Args[:cap(rows[j].Args)], 99) != (j == i && len(args) > 0) {
				t.Errorf("the rows %d and %d of one answer share memory", i, j)
			}
		}
	}
	rows, _ := b.World()
	all := rows[:cap(rows)]
	for i := range all {
		for j := range all[i].Args[:cap(all[i].Args)] {
			all[i].Args[:cap(all[i].Args)][j] = 99
		}
		all[i] = api.Row{Name: "mine", Value: 99}
	}
	if got, e := b.World(); e != api.OK || !reflect.DeepEqual(got, want) {
		t.Errorf("%s, %d, want %s", shown(got), e, shown(want))
	}
	b.Say("a = b")
	if got := shown(want); got != "a[]:0 b[]:1 c[]:2 d[]:0 f[0]:3 f[1]:4 f[2]:5 g[0 1 2]:3 g[1 0 2]:4 h[0 2]:6" {
		t.Errorf("an answer: %s", got)
	}
}

// valueIn: what a plain term stands for in a world.
func valueIn(t *testing.T, rows []api.Row, term string) int {
	t.Helper()
	name, parts := cutTerm(term)
	var args []int
	for _, p := range parts {
		args = append(args, valueIn(t, rows, p))
	}
	for _, r := range rows {
		if r.Name == name && slices.Equal(r.Args, args) {
			return r.Value
		}
	}
	t.Fatalf("%s: %s%v is not there", shown(rows), name, args)
	return 0
}

// wantedRows: the rows of the terms in these classes, as text, with how many terms have them.
func wantedRows(classes [][]string) map[string]int {
	places := map[string]int{}
	for place, list := range classes {
		for _, term := range list {
			places[term] = place
		}
	}
	rows := map[string]int{}
	for term, place := range places {
		name, parts := cutTerm(term)
		row := api.Row{Name: name, Value: place}
		for _, p := range parts {
			row.Args = append(row.Args, places[p])
		}
		rows[shown([]api.Row{row})]++
	}
	return rows
}

// TestP8Drawn holds World against Classes, and what is said against that world.
func TestP8Drawn(t *testing.T) {
	d := dice(13)
	clashes, fewer := 0, 0
	for range 500 {
		b := akin.New()
		var said [][3]string
		for range 1 + d.throw(6) {
			s := [3]string{d.term(3), []string{"=", "!="}[d.throw(2)], d.term(2)}
			said = append(said, s)
			b.Say(strings.Join(s[:], " "))
		}
		rows, e := b.World()
		if drawFrom(said).clash(said) {
			clashes++
			if len(rows) != 0 || e != api.ErrClash {
				t.Fatalf("of %v, that clash: %s, %d", said, shown(rows), e)
			}
			continue
		}
		wanted := wantedRows(b.Classes())
		if e != api.OK || len(rows) != len(wanted) {
			t.Fatalf("of %v: %s, %d, want %v", said, shown(rows), e, wanted)
		}
		for i := range rows {
			count := wanted[shown(rows[i:i+1])]
			if count == 0 || i > 0 && !ahead(rows[i-1], rows[i]) {
				t.Fatalf("of %v: the row %d of %s, want %v", said, i, shown(rows), wanted)
			}
			if count > 1 {
				fewer++
			}
		}
		for _, s := range said {
			if (valueIn(t, rows, s[0]) == valueIn(t, rows, s[2])) != (s[1] == "=") {
				t.Fatalf("%v is not so in %s", s, shown(rows))
			}
		}
	}
	if clashes < 20 || fewer < 20 {
		t.Errorf("the dice throw too little of a kind: %d, %d", clashes, fewer)
	}
}

// ahead tells whether a row comes ahead of another one, and is not the same.
func ahead(r, s api.Row) bool {
	if r.Name != s.Name {
		return r.Name < s.Name
	}
	if len(r.Args) != len(s.Args) {
		return len(r.Args) < len(s.Args)
	}
	for i := range r.Args {
		if r.Args[i] != s.Args[i] {
			return r.Args[i] < s.Args[i]
		}
	}
	return false
}
