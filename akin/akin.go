// Package akin: what follows from equations between terms, and from which of them: see DOC.md.
package akin

import (
	"akin/api"
	"akin/read"
	"akin/web"
)

// Book is what is said.
type Book struct {
	self *Book // the Book itself, if New made it: a copy is another Book, that New did not make
	web  *web.Web
}

// New makes a Book (P4).
func New() *Book {
	b := &Book{web: web.New()}
	b.self = b
	return b
}

// Say says a sentence (P4).
func (b *Book) Say(sentence string) (int, api.Errno, int) {
	s, e, at := b.read(sentence)
	if e != api.OK {
		return 0, e, at
	}
	number, here := b.web.Sayings(), b.web.Here()
	if number >= api.MaxSaid {
		return 0, api.ErrMany, 0
	}
	b.web.Say(s)
	if b.web.Terms() > api.MaxTerms {
		b.web.BackTo(here)
		return 0, api.ErrMany, 0
	}
	return number, api.OK, 0
}

// Said tells what is said (P4).
func (b *Book) Said() []string {
	if b.closed() {
		return nil
	}
	return b.web.Said()
}

// Clash tells whether it can't all be so (P5).
func (b *Book) Clash() bool {
	return !b.closed() && b.web.Clash()
}

// Follows tells whether a sentence follows (P5).
func (b *Book) Follows(sentence string) (bool, api.Errno, int) {
	s, e, at := b.read(sentence)
	if e != api.OK {
		return false, e, at
	}
	return b.web.Follows(s), api.OK, 0
}

// Why tells from which sentences it follows (P6).
func (b *Book) Why(sentence string) ([]int, api.Errno, int) {
	s, e, at := b.read(sentence)
	if e != api.OK {
		return nil, e, at
	}
	numbers, ok := b.web.Why(s)
	if !ok {
		return nil, api.ErrNone, 0
	}
	return numbers, api.OK, 0
}

// Classes tells which terms are equal (P7).
func (b *Book) Classes() [][]string {
	if b.closed() {
		return nil
	}
	return b.web.Classes()
}

// World tells a world in which all is so (P8).
func (b *Book) World() ([]api.Row, api.Errno) {
	if b.closed() {
		return nil, api.ErrClosed
	}
	if b.web.Clash() {
		return nil, api.ErrClash
	}
	return b.web.World(), api.OK
}

// Mark sets a mark (P9).
func (b *Book) Mark() api.Errno {
	if b.closed() {
		return api.ErrClosed
	}
	if b.web.Marks() >= api.MaxMarks {
		return api.ErrMany
	}
	b.web.Mark()
	return api.OK
}

// Back takes back what was said since (P9).
func (b *Book) Back() api.Errno {
	if b.closed() {
		return api.ErrClosed
	}
	if !b.web.BackToMark() {
		return api.ErrNone
	}
	return api.OK
}

// closed tells whether this is no Book that New made.
func (b *Book) closed() bool {
	return b == nil || b.self != b
}

// read reads a sentence that is handed in to this Book.
func (b *Book) read(sentence string) (read.Sentence, api.Errno, int) {
	if b.closed() {
		return read.Sentence{}, api.ErrClosed, 0
	}
	s, fault, at := read.Read(sentence)
	return s, errnos[fault], at
}

// errnos is what a fault of a text is called outside.
var errnos = [...]api.Errno{
	read.Fine:      api.OK,
	read.TooLong:   api.ErrLong,
	read.BadForm:   api.ErrForm,
	read.LongName:  api.ErrRange,
	read.ManyParts: api.ErrRange,
	read.TooDeep:   api.ErrRange,
}
