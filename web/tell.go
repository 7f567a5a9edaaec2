package web

import (
	"slices"
	"strings"
)

// Said is all that is said, in its order, plain.
func (w *Web) Said() []string {
	texts := make([]string, 0, len(w.said))
	for _, s := range w.said {
		texts = append(texts, w.plain(s.left)+" "+s.sign.String()+" "+w.plain(s.right))
	}
	return texts
}

// Classes is the known terms, plain: a list a class, by their texts, and the lists by their first ones.
func (w *Web) Classes() [][]string {
	var lists [][]string
	places := map[int]int{} // of the lists, by their classes
	for _, t := range w.byText() {
		class := w.classes[t.number]
		place, ok := places[class]
		if !ok {
			place = len(lists)
			places[class] = place
			lists = append(lists, nil)
		}
		lists[place] = append(lists[place], t.text)
	}
	return lists
}

type textOf struct {
	text   string
	number int
}

// byText is all terms, in the order of their plain texts.
func (w *Web) byText() []textOf {
	terms := make([]textOf, 0, len(w.shapes))
	for number := range w.shapes {
		terms = append(terms, textOf{w.plain(number), number})
	}
	slices.SortFunc(terms, func(a, b textOf) int { return strings.Compare(a.text, b.text) })
	return terms
}

func (w *Web) plain(number int) string {
	return string(w.appendPlain(nil, number))
}

func (w *Web) appendPlain(text []byte, number int) []byte {
	s := w.shapes[number]
	text = append(text, s.name...)
	if s.count == 0 {
		return text
	}
	before := "("
	for _, part := range s.parts[:s.count] {
		text = append(text, before...)
		text = w.appendPlain(text, part)
		before = ", "
	}
	return append(text, ')')
}
