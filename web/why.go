package web

import (
	"slices"

	"akin/read"
)

// Follows tells whether a sentence follows from what is said: just if its contrary can't be so beside it.
func (w *Web) Follows(s read.Sentence) bool {
	return w.clashWith(s.Contrary())
}

// Why is the numbers of those said from which a sentence follows, rising: from the last one to the first, each is left out without which it still does. It is false if the sentence does not follow.
func (w *Web) Why(asked read.Sentence) ([]int, bool) {
	if !w.Follows(asked) {
		return nil, false
	}
	said := w.sentences()
	other := New() // what is said is taken back there, one by one: not in the Web that is asked
	other.Say(asked.Contrary())
	places := make([]int, len(said))
	for number, s := range said {
		places[number] = other.Here()
		other.Say(s)
	}
	var numbers []int
	var needed []read.Sentence
	for number, s := range slices.Backward(said) {
		other.BackTo(places[number])
		if !other.clashWith(needed...) {
			numbers = append(numbers, number)
			needed = append(needed, s)
		}
	}
	slices.Reverse(numbers)
	return numbers, true
}

// clashWith tells whether it would clash if these were said too. It takes them back.
func (w *Web) clashWith(more ...read.Sentence) bool {
	here := w.Here()
	for _, s := range more {
		w.Say(s)
	}
	clash := w.Clash()
	w.BackTo(here)
	return clash
}

// sentences is all that is said, in its order, as it may be said elsewhere.
func (w *Web) sentences() []read.Sentence {
	list := make([]read.Sentence, 0, len(w.said))
	for _, s := range w.said {
		list = append(list, read.Sentence{Left: w.term(s.left), Sign: s.sign, Right: w.term(s.right)})
	}
	return list
}

func (w *Web) term(number int) read.Term {
	s := w.shapes[number]
	t := read.Term{Name: s.name}
	for _, part := range s.parts[:s.count] {
		t.Parts = append(t.Parts, w.term(part))
	}
	return t
}
