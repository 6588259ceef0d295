package writing_test

import (
	"testing"

	"savant/writing"
)

func TestText(t *testing.T) {
	for want, l := range map[string][]string{
		"[] {} ":                     nil,
		"[a] {a} @a":                 {"a"},
		"[a; b; c] {a; b; c} @a@b@c": {"a", "b", "c"},
	} {
		var w writing.Text
		piece := func(s string) { w.Put(s) }
		w.Put("[")
		writing.Separate(&w, l, piece)
		w.Put("]", " ")
		writing.Brace(&w, l, piece)
		w.Put(" ")
		w.Names("@", l)
		w.Put()
		if got := w.String(); got != want {
			t.Errorf("%q, not %q", got, want)
		}
	}
}
