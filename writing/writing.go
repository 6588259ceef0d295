// Package writing is what layers share that write texts: pieces one behind the other, and lists of them.
package writing

import "strings"

// Text is what is written so far.
type Text struct{ strings.Builder }

// Put writes texts one behind the other.
func (t *Text) Put(texts ...string) {
	for _, s := range texts {
		t.WriteString(s)
	}
}

// Names writes each of these, with a text ahead of it.
func (t *Text) Names(ahead string, l []string) {
	for _, name := range l {
		t.Put(ahead, name)
	}
}

// Separate writes the pieces of l with `; ` between them.
func Separate[T any](t *Text, l []T, piece func(x T)) {
	for i, x := range l {
		if i > 0 {
			t.Put("; ")
		}
		piece(x)
	}
}

// Brace writes them in braces.
func Brace[T any](t *Text, l []T, piece func(x T)) {
	t.Put("{")
	Separate(t, l, piece)
	t.Put("}")
}
