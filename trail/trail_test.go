package trail

import "testing"

func TestBackToCallsTheLastFirst(t *testing.T) {
	var tr Trail
	text := ""
	for _, s := range []string{"a", "b", "c", "d"} {
		before := text
		text += s
		tr.Leave(func() {
			if text != before+s {
				t.Errorf("%q is changed back while it is %q", s, text)
			}
			text = before
		})
	}
	tr.BackTo(4)
	if text != "abcd" {
		t.Errorf("back to where it is: %q", text)
	}
	tr.BackTo(2)
	if text != "ab" || tr.Here() != 2 {
		t.Errorf("back to 2: %q, here is %d", text, tr.Here())
	}
	tr.BackTo(0)
	if text != "" || tr.Here() != 0 {
		t.Errorf("back to the start: %q, here is %d", text, tr.Here())
	}
}
