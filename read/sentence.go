// Package read: from the text of a sentence to its terms.
package read

import "akin/api"

// Sign is the kind of a sentence.
type Sign int

const (
	Equal Sign = iota
	Unequal
)

// String is the sign as it stands in a sentence.
func (s Sign) String() string {
	if s == Equal {
		return "="
	}
	return "!="
}

// Term is a name and its parts.
type Term struct {
	Name  string
	At    int // where the name begins in the text
	Parts []Term
}

// Sentence is two terms and what is said of them.
type Sentence struct {
	Left  Term
	Sign  Sign
	Right Term
}

// Contrary is the sentence that is so just where this one is not.
func (s Sentence) Contrary() Sentence {
	if s.Sign == Equal {
		s.Sign = Unequal
	} else {
		s.Sign = Equal
	}
	return s
}

// Fault is what is wrong with a text.
type Fault int

const (
	Fine Fault = iota
	TooLong
	BadForm
	LongName
	ManyParts
	TooDeep
)

// Read reads a text. With a fault there is no sentence, but the place of the fault.
func Read(text string) (Sentence, Fault, int) {
	if len(text) > api.MaxText {
		return Sentence{}, TooLong, 0
	}
	r := reader{text: text}
	r.next()
	s, ok := r.sentence()
	if !ok {
		return Sentence{}, BadForm, r.from
	}
	for _, side := range []Term{s.Left, s.Right} {
		if fault, at := side.outOfRange(0); fault != Fine {
			return Sentence{}, fault, at
		}
	}
	return s, Fine, 0
}

// outOfRange finds the first fault in the order of the text: a name stands ahead of its parts.
func (t Term) outOfRange(depth int) (Fault, int) {
	switch {
	case len(t.Name) > api.MaxName:
		return LongName, t.At
	case len(t.Parts) > api.MaxArgs:
		return ManyParts, t.At
	case depth > api.MaxDepth:
		return TooDeep, t.At
	}
	for _, p := range t.Parts {
		if fault, at := p.outOfRange(depth + 1); fault != Fine {
			return fault, at
		}
	}
	return Fine, 0
}
