package web

import (
	"cmp"
	"slices"
	"strings"

	"akin/api"
)

// Said is all that is said, in its order, plain.
func (w *Web) Said() []string {
	texts := make([]string, 0, len(w.said))
	for _, s := range w.said {
		texts = append(texts, w.plain(s.left)+" "+s.sign.String()+" "+w.plain(s.right))
	}
	return texts
}

// Classes is the known terms, plain: a list a class, by their texts, and the lists by their first ones.
func (w *Web) Classes() [][]string {
	var lists [][]string
	terms := w.byText()
	places := w.places(terms)
	for _, t := range terms {
		place := places[t.number]
		if place == len(lists) {
			lists = append(lists, nil)
		}
		lists[place] = append(lists[place], t.text)
	}
	return lists
}

// World is, of each known term, its name, the places of its parts' classes in Classes, and that of its own: each row once.
func (w *Web) World() []api.Row {
	places := w.places(w.byText())
	rows := make([]api.Row, 0, len(w.shapes))
	for number, s := range w.shapes {
		row := api.Row{Name: s.name, Value: places[number]}
		for _, part := range s.parts[:s.count] {
			row.Args = append(row.Args, places[part])
		}
		rows = append(rows, row)
	}
	slices.SortFunc(rows, compareRows)
	// Rows of one name and the same Args have one Value: their terms are equal because their parts are.
	return slices.CompactFunc(rows, func(a, b api.Row) bool { return compareRows(a, b) == 0 })
}

func compareRows(a, b api.Row) int {
	return cmp.Or(strings.Compare(a.Name, b.Name), cmp.Compare(len(a.Args), len(b.Args)), slices.Compare(a.Args, b.Args))
}

// places is the place of each term's class in Classes. The terms must come in the order of their texts: so do the classes then, by their first ones.
func (w *Web) places(terms []textOf) []int {
	places := make([]int, len(terms))
	seen := map[int]int{} // the places, by the classes
	for _, t := range terms {
		class := w.classes[t.number]
		place, ok := seen[class]
		if !ok {
			place = len(seen)
			seen[class] = place
		}
		places[t.number] = place
	}
	return places
}

type textOf struct {
	text   string
	number int
}

// byText is all terms, in the order of their plain texts.
func (w *Web) byText() []textOf {
	terms := make([]textOf, 0, len(w.shapes))
	for number := range w.shapes {
		terms = append(terms, textOf{w.plain(number), number})
	}
	slices.SortFunc(terms, func(a, b textOf) int { return strings.Compare(a.text, b.text) })
	return terms
}

func (w *Web) plain(number int) string {
	return string(w.appendPlain(nil, number))
}

func (w *Web) appendPlain(text []byte, number int) []byte {
	s := w.shapes[number]
	text = append(text, s.name...)
	if s.count == 0 {
		return text
	}
	before := "("
	for _, part := range s.parts[:s.count] {
		text = append(text, before...)
		text = w.appendPlain(text, part)
		before = ", "
	}
	return append(text, ')')
}
