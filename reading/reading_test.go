package reading_test

import (
	"strings"
	"testing"

	"savant/api"
	"savant/reading"
)

// words reads all variables at the begin of tokens; there must be one.
func words(l []api.Token) (s string, rest []api.Token, ok bool) {
	r := reading.Tokens{Rest: l}
	var names []string
	for name, ok := r.TakeAny(api.TokVar); ok; name, ok = r.TakeAny(api.TokVar) {
		names = append(names, name)
	}
	return strings.Join(names, " "), r.Rest, len(names) > 0
}

// A text is read, if it is tokens, and these are all one thing.
func TestWhole(t *testing.T) {
	for _, c := range []struct {
		s, want string
		e       api.Errno
	}{
		{"a", "a", api.OK},
		{" a b # c", "a b", api.OK},
		{"", "", api.ErrTerm},
		{"T", "", api.ErrTerm},
		{"a b T", "", api.ErrTerm},
		{"a b )", "", api.ErrTerm},
		{"a - b", "", api.ErrLex},
		{strings.Repeat(" ", api.MaxInput) + "a", "", api.ErrLong},
	} {
		if got, e := reading.Whole(c.s, words, api.ErrTerm); got != c.want || e != c.e {
			t.Errorf("%.20q: %q, %v", c.s, got, e)
		}
	}
}

// Tokens are gone past only where they are those that are asked for; at the end there are none.
func TestTokens(t *testing.T) {
	name, sign := api.Token{Kind: api.TokVar, Text: "a", At: 3}, api.Token{Kind: api.TokSign, Text: "("}
	l := []api.Token{name, sign}
	r := reading.Tokens{Rest: l}
	if r.Next() != name || r.At(api.TokVar, "b") || r.At(api.TokCon, "a") || !r.At(api.TokVar, "a") {
		t.Error(r.Next())
	}
	if r.Take(api.TokVar, "b") || r.Take(api.TokCon, "a") {
		t.Error("another token is taken")
	}
	if text, ok := r.TakeAny(api.TokCon); ok || text != "" {
		t.Error(text, ok)
	}
	if text, ok := r.TakeAny(api.TokVar); !ok || text != "a" || len(r.Rest) != 1 {
		t.Error(text, ok)
	}
	if !r.Take(api.TokSign, "(") || len(r.Rest) != 0 {
		t.Error("not taken")
	}
	if text, ok := r.TakeAny(api.TokVar); ok || text != "" || r.Next() != (api.Token{}) || r.Take(api.TokSign, "(") || r.At(api.TokSign, "(") {
		t.Error("there is something behind the end")
	}
	if l[0] != name || l[1] != sign {
		t.Error("the tokens are changed")
	}
}

// A piece is read at the begin of tokens, and gone past; others go on behind it.
func TestPiece(t *testing.T) {
	r := reading.Tokens{Rest: []api.Token{{Kind: api.TokVar, Text: "a"}, {Kind: api.TokVar, Text: "b"}, {Kind: api.TokSign, Text: ")"}}}
	if s, ok := reading.Piece(&r, words); s != "a b" || !ok || !r.At(api.TokSign, ")") {
		t.Error(s, ok, r.Rest)
	}
	if s, ok := reading.Piece(&r, words); s != "" || ok {
		t.Error(s, ok)
	}
}
