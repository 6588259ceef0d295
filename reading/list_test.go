package reading_test

import (
	"slices"
	"strings"
	"testing"

	"savant/api"
	"savant/lex"
	"savant/reading"
)

func tokens(t *testing.T, s string) reading.Tokens {
	t.Helper()
	l, _, e := lex.Scan(s)
	if e != api.OK {
		t.Fatalf("Scan(%q): %v", s, e)
	}
	return reading.Tokens{Rest: l}
}

// Lists are read as far as they go: one piece or more, with `;` between; or none, where there are no tokens, or nothing in braces.
func TestLists(t *testing.T) {
	for _, c := range []struct {
		s, read, want string
		rest          int
	}{
		{"a", "separated", "a", 0},
		{"a;b ; c", "separated", "a b c", 0},
		{"a;b c", "separated", "a b", 1},
		{"a b", "separated", "a", 1},
		{"", "separated", "no", 0},
		{";a", "separated", "no", 2},
		{"a;", "separated", "no", 0},
		{"a;;b", "separated", "no", 2},
		{"", "up to end", "", 0},
		{"a", "up to end", "a", 0},
		{"a;b }", "up to end", "a b", 1},
		{"}", "up to end", "no", 1},
		{"a;", "up to end", "no", 0},
		{"{}", "in braces", "", 0},
		{"{} a", "in braces", "", 1},
		{"{a}", "in braces", "a", 0},
		{"{a;b};c", "in braces", "a b", 2},
		{"", "in braces", "no", 0},
		{"a", "in braces", "no", 1},
		{"{", "in braces", "no", 0},
		{"}", "in braces", "no", 1},
		{"{a", "in braces", "no", 0},
		{"{a;}", "in braces", "no", 1},
		{"{;}", "in braces", "no", 2},
		{"{a b}", "in braces", "no", 2},
		{"", "variables", "", 0},
		{"T a", "variables", "", 2},
		{"a b;c", "variables", "a b", 2},
	} {
		r := tokens(t, c.s)
		read := map[string]func() ([]string, bool){
			"separated": func() ([]string, bool) { return reading.Separated(&r, r.Variable) },
			"up to end": func() ([]string, bool) { return reading.UpToEnd(&r, r.Variable) },
			"in braces": func() ([]string, bool) { return reading.InBraces(&r, r.Variable) },
			"variables": r.Variables,
		}[c.read]
		l, ok := read()
		if got := strings.Join(l, " "); ok != (c.want != "no") || ok && got != c.want || len(r.Rest) != c.rest {
			t.Errorf("%s of %q: %q, %v, and %d behind it", c.read, c.s, got, ok, len(r.Rest))
		}
	}
}

// What is laid behind a list does not stand in what another one has there.
func TestLonger(t *testing.T) {
	r := tokens(t, "b c T")
	room := append(make([]string, 0, 9), "a", "other")
	l, ok := reading.Longer(room[:1], r.AtVariable, r.Variable)
	if !slices.Equal(l, []string{"a", "b", "c"}) || !ok || room[1] != "other" || len(r.Rest) != 1 {
		t.Error(l, ok, room, r.Rest)
	}
	if l, ok := reading.Longer(room, func() bool { return true }, r.Variable); l != nil || ok {
		t.Error(l, ok)
	}
}

// Signs and key words are gone past, if they are those.
func TestSignsAndWords(t *testing.T) {
	r := tokens(t, "in -> x")
	if r.Sign("in") || r.Word("let") || !r.Word("in") || r.Word("->") || r.Sign("=") || !r.Sign("->") {
		t.Error(r.Rest)
	}
	if r.Word("x") || r.Sign("x") || !r.AtVariable() {
		t.Error(r.Rest)
	}
	if name, ok := r.Variable(); name != "x" || !ok || r.AtVariable() || r.Sign("") || r.Word("") {
		t.Error(name, ok)
	}
}
