package read

import "strings"

// word is the kind of a word of a text.
type word int

const (
	nameWord word = iota
	openWord
	closeWord
	commaWord
	equalWord
	unequalWord
	bangWord // a ! that no = follows
	endWord
	oddWord // a byte that begins no word
)

// reader is at one word of a text. Where reading fails it stays, so that from is the place of the fault.
type reader struct {
	text     string
	kind     word
	from, to int
}

func (r *reader) next() {
	r.from = r.to
	for r.from < len(r.text) && r.text[r.from] == ' ' {
		r.from++
	}
	if r.from == len(r.text) {
		r.kind, r.to = endWord, r.from
		return
	}
	r.kind, r.to = firstKind(r.text[r.from]), r.from+1
	switch r.kind {
	case nameWord:
		for r.to < len(r.text) && (isLetter(r.text[r.to]) || isDigit(r.text[r.to])) {
			r.to++
		}
	case bangWord:
		if r.to < len(r.text) && r.text[r.to] == '=' {
			r.kind = unequalWord
			r.to++
		}
	}
}

// firstKind is the kind of the word that a byte begins, as far as that byte tells it.
func firstKind(c byte) word {
	switch {
	case isLetter(c):
		return nameWord
	case c == '(':
		return openWord
	case c == ')':
		return closeWord
	case c == ',':
		return commaWord
	case c == '=':
		return equalWord
	case c == '!':
		return bangWord
	}
	return oddWord
}

func isLetter(c byte) bool { return 'a' <= c && c <= 'z' }

func isDigit(c byte) bool { return '0' <= c && c <= '9' }

func (r *reader) sentence() (Sentence, bool) {
	left, ok := r.term()
	if !ok {
		return Sentence{}, false
	}
	sign, ok := r.sign()
	if !ok {
		return Sentence{}, false
	}
	right, ok := r.term()
	return Sentence{left, sign, right}, ok && r.kind == endWord
}

func (r *reader) sign() (Sign, bool) {
	switch r.kind {
	case equalWord:
		r.next()
		return Equal, true
	case unequalWord:
		r.next()
		return Unequal, true
	case bangWord:
		r.from = r.to // the ! may stand here, only what is behind it may not
	}
	return Equal, false
}

func (r *reader) term() (Term, bool) {
	if r.kind != nameWord {
		return Term{}, false
	}
	// A name is kept for long: without a copy the whole text would be.
	t := Term{Name: strings.Clone(r.text[r.from:r.to]), At: r.from}
	r.next()
	if r.kind != openWord {
		return t, true
	}
	parts, ok := r.parts()
	t.Parts = parts
	return t, ok
}

func (r *reader) parts() ([]Term, bool) {
	var parts []Term
	for {
		r.next()
		part, ok := r.term()
		if !ok {
			return nil, false
		}
		parts = append(parts, part)
		if r.kind == closeWord {
			r.next()
			return parts, true
		}
		if r.kind != commaWord {
			return nil, false
		}
	}
}
