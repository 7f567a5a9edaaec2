// Package web: the terms that are known, what is said of them, and the classes they fall into by it.
package web

import (
	"slices"

	"akin/api"
	"akin/read"
	"akin/trail"
)

// shape is a name and a number for each of its parts. The count is needed: a part that is not there has the number 0, which is also a term's.
type shape struct {
	name  string
	count int
	parts [api.MaxArgs]int
}

// saying is a sentence, by the numbers of its terms.
type saying struct {
	sign        read.Sign
	left, right int
}

// Web numbers its terms from 0 on, parts ahead of what they are parts of. All its changes leave their way back on its trail.
type Web struct {
	trail.Trail
	shapes  []shape       // of each term, with the numbers of its parts
	numbers map[shape]int // of the terms, by their shapes
	classes []int         // of each term, the number of one term of its class, the same for all of them
	// alike has, by its name and the classes of its parts, a term of that kind. Keys with a class that has gone into
	// another one stay: nothing asks for them until that is taken back, and then they are right again.
	alike map[shape]int
	said  []saying
}

// New makes a Web in which nothing is said.
func New() *Web {
	return &Web{numbers: map[shape]int{}, alike: map[shape]int{}}
}

// Terms is how many terms are known.
func (w *Web) Terms() int { return len(w.shapes) }

// Sayings is how many sentences are said.
func (w *Web) Sayings() int { return len(w.said) }

// Say says a sentence that Read has found fine.
func (w *Web) Say(s read.Sentence) {
	ways := [...]func(*Web, int, int){
		read.Equal:   (*Web).sayEqual,
		read.Unequal: (*Web).sayUnequal,
	}
	left, right := w.add(s.Left), w.add(s.Right)
	ways[s.Sign](w, left, right)
}

func (w *Web) sayEqual(left, right int) {
	w.note(saying{read.Equal, left, right})
	w.join(left, right)
}

func (w *Web) sayUnequal(left, right int) {
	w.note(saying{read.Unequal, left, right})
}

func (w *Web) note(s saying) {
	w.said = append(w.said, s)
	w.Leave(func() { w.said = w.said[:len(w.said)-1] })
}

// Clash tells whether two sides that are said to be unequal have come into one class.
func (w *Web) Clash() bool {
	return slices.ContainsFunc(w.said, func(s saying) bool {
		return s.sign == read.Unequal && w.classes[s.left] == w.classes[s.right]
	})
}

// add makes a term known, if it is not yet, and gives its number.
func (w *Web) add(t read.Term) int {
	s := shape{name: t.Name, count: len(t.Parts)}
	for i, p := range t.Parts {
		s.parts[i] = w.add(p)
	}
	if number, ok := w.numbers[s]; ok {
		return number
	}
	return w.enter(s)
}

func (w *Web) enter(s shape) int {
	number := len(w.shapes)
	class := number
	if twin := w.file(s, number); twin != number {
		class = w.classes[twin]
	}
	w.shapes = append(w.shapes, s)
	w.classes = append(w.classes, class)
	w.numbers[s] = number
	w.Leave(func() {
		w.shapes[number] = shape{} // or the spare room would go on holding the name
		w.shapes = w.shapes[:number]
		w.classes = w.classes[:number]
		delete(w.numbers, s)
	})
	return number
}

// file finds the term that stands in alike for those of this shape's name and parts' classes; if there is none, the given one does from now on.
func (w *Web) file(s shape, number int) int {
	for i := range s.count {
		s.parts[i] = w.classes[s.parts[i]]
	}
	if twin, ok := w.alike[s]; ok {
		return twin
	}
	w.alike[s] = number
	w.Leave(func() { delete(w.alike, s) })
	return number
}

// join makes two terms equal, and all that are equal then because their parts are.
func (w *Web) join(left, right int) {
	pairs := [][2]int{{left, right}}
	for len(pairs) > 0 {
		into, from := w.classes[pairs[0][0]], w.classes[pairs[0][1]]
		pairs = pairs[1:]
		if into != from {
			w.move(from, into)
			pairs = append(pairs, w.twins()...)
		}
	}
}

func (w *Web) move(from, into int) {
	for number, class := range w.classes {
		if class == from {
			w.classes[number] = into
			w.Leave(func() { w.classes[number] = from })
		}
	}
}

// twins are terms of two classes that have the same name and, one by one, equal parts.
func (w *Web) twins() [][2]int {
	var pairs [][2]int
	for number, s := range w.shapes {
		if twin := w.file(s, number); w.classes[twin] != w.classes[number] {
			pairs = append(pairs, [2]int{twin, number})
		}
	}
	return pairs
}
