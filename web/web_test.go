package web

import (
	"maps"
	"reflect"
	"testing"

	"akin/read"
)

func say(t *testing.T, w *Web, texts ...string) {
	t.Helper()
	for _, text := range texts {
		s, fault, at := read.Read(text)
		if fault != read.Fine {
			t.Fatalf("%q: %d, %d", text, fault, at)
		}
		w.Say(s)
	}
}

// state is a copy of all that a Web holds but its trail.
func state(w *Web) Web {
	return Web{shapes: append([]shape{}, w.shapes...), numbers: maps.Clone(w.numbers), classes: append([]int{}, w.classes...), alike: maps.Clone(w.alike), said: append([]saying{}, w.said...)}
}

func TestBackToLeavesNothingOfWhatWasSaid(t *testing.T) {
	texts := []string{"f(a) = b", "f(f(b)) != c", "g(a, b) = g(b, a)", "a = b", "g(a, a) != f(a)", "f(f(f(a))) = a", "h(a, b, c) = h(c, b, a)", "a = c", "a = a", "d != d"}
	w := New()
	var states []Web
	var places []int
	for _, text := range texts {
		states, places = append(states, state(w)), append(places, w.Here())
		say(t, w, text)
	}
	for i := len(texts) - 1; i >= 0; i-- {
		w.BackTo(places[i])
		if got := state(w); !reflect.DeepEqual(got, states[i]) {
			t.Errorf("without %q: %+v, want %+v", texts[i], got, states[i])
		}
	}
	if w.Terms() != 0 || w.Sayings() != 0 || w.Here() != 0 {
		t.Errorf("of nothing: %d terms, %d sayings, %d changes", w.Terms(), w.Sayings(), w.Here())
	}
}

func TestWhatIsSaidAgainAfterBackTo(t *testing.T) {
	fresh := New()
	say(t, fresh, "f(a) = a", "g(a) != b", "f(f(c)) = c")
	w := New()
	say(t, w, "f(a) = a")
	here := w.Here()
	say(t, w, "b = a", "f(b) = c", "g(c) = d")
	w.BackTo(here)
	say(t, w, "g(a) != b", "f(f(c)) = c")
	if !reflect.DeepEqual(state(w), state(fresh)) {
		t.Errorf("%+v, want %+v", state(w), state(fresh))
	}
}

func TestANewTermFallsIntoItsClass(t *testing.T) {
	w := New()
	say(t, w, "a = b", "g(a, b) = c", "g(b, a) != d", "f(g(b, b)) = f(c)")
	want := [][]string{{"a", "b"}, {"c", "g(a, b)", "g(b, a)", "g(b, b)"}, {"d"}, {"f(c)", "f(g(b, b))"}}
	if got := w.Classes(); !reflect.DeepEqual(got, want) {
		t.Errorf("%q, want %q", got, want)
	}
}

func TestTermsAreKnownOnce(t *testing.T) {
	w := New()
	say(t, w, "g(f(a), f(a)) = f(a)", "f(a) != a", "f = a")
	if w.Terms() != 4 || w.Sayings() != 3 {
		t.Errorf("%d terms, %d sayings", w.Terms(), w.Sayings())
	}
}

func TestAskingLeavesNoTrace(t *testing.T) {
	w := New()
	say(t, w, "f(f(f(a))) = a", "f(f(f(f(f(a))))) = a", "b != c", "g(a, b) = g(c, a)")
	before, here := state(w), w.Here()
	for _, text := range []string{"f(a) = a", "f(a) != a", "x = f(y)", "h(a, b) = h(f(a), b)", "b = b", "b = c"} {
		s, _, _ := read.Read(text)
		w.Follows(s)
		w.Why(s)
		w.World()
		if got := state(w); !reflect.DeepEqual(got, before) || w.Here() != here {
			t.Errorf("%q: %+v, %d changes, want %+v, %d", text, got, w.Here(), before, here)
		}
	}
}

func TestWhatIsSaidMayBeSaidElsewhere(t *testing.T) {
	w := New()
	say(t, w, "f(a, g(b), a) = f(a)", "f(a) != f", "b = a")
	other := New()
	for _, s := range w.sentences() {
		other.Say(s)
	}
	if !reflect.DeepEqual(state(other), state(w)) {
		t.Errorf("%+v, want %+v", state(other), state(w))
	}
}
