package trail

import "testing"

func TestBackToCallsTheLastFirst(t *testing.T) {
	var tr Trail
	text := ""
	for _, s := range []string{"a", "b", "c", "d"} {
		before := text
		text += s
		tr.Leave(func() {
			if text != before+s {
				t.Errorf("%q is changed back while it is %q", s, text)
			}
			text = before
		})
	}
	tr.BackTo(4)
	if text != "abcd" {
		t.Errorf("back to where it is: %q", text)
	}
	tr.BackTo(2)
	if text != "ab" || tr.Here() != 2 {
		t.Errorf("back to 2: %q, here is %d", text, tr.Here())
	}
	tr.BackTo(0)
	if text != "" || tr.Here() != 0 {
		t.Errorf("back to the start: %q, here is %d", text, tr.Here())
	}
}

func TestBackToMark(t *testing.T) {
	var tr Trail
	text := ""
	add := func(s string) {
		text += s
		tr.Leave(func() { text = text[:len(text)-len(s)] })
	}
	if tr.BackToMark() || tr.Marks() != 0 {
		t.Errorf("with no mark: %d marks", tr.Marks())
	}
	add("a")
	if tr.BackToMark() || text != "a" {
		t.Errorf("with no mark: %q", text)
	}
	tr.Mark()
	add("b")
	tr.Mark()
	tr.Mark()
	here := tr.Here()
	add("c")
	tr.BackTo(here)
	add("d")
	for i, want := range []string{"ab", "ab", "a"} {
		if !tr.BackToMark() || text != want || tr.Marks() != 2-i {
			t.Errorf("back to a mark: %q, want %q; %d marks", text, want, tr.Marks())
		}
	}
	if tr.BackToMark() || text != "a" || tr.Here() != 1 {
		t.Errorf("with no mark any more: %q, here is %d", text, tr.Here())
	}
}
