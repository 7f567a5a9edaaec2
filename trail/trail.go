// Package trail: how to change back what was changed.
package trail

// Trail holds a closure for each change, in the order of the changes.
type Trail struct {
	backs []func()
	marks []int // places on the trail, in the order they were marked in
}

// Leave puts down what changes the last change back.
func (t *Trail) Leave(back func()) {
	t.backs = append(t.backs, back)
}

// Here is the place on the trail that BackTo leads back to.
func (t *Trail) Here() int {
	return len(t.backs)
}

// BackTo changes back all that was changed since the trail was here.
func (t *Trail) BackTo(here int) {
	for len(t.backs) > here {
		last := len(t.backs) - 1
		back := t.backs[last]
		t.backs[last] = nil // or the spare room would go on holding what the closure holds
		t.backs = t.backs[:last]
		back()
	}
}

// Mark sets a mark here.
func (t *Trail) Mark() {
	t.marks = append(t.marks, t.Here())
}

// Marks is how many marks there are.
func (t *Trail) Marks() int {
	return len(t.marks)
}

// BackToMark changes back all that was changed since the last mark was set, and takes that mark away. It is false if there is none.
func (t *Trail) BackToMark() bool {
	last := len(t.marks) - 1
	if last < 0 {
		return false
	}
	t.BackTo(t.marks[last])
	t.marks = t.marks[:last]
	return true
}
