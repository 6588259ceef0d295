package grammar_test

import (
	"slices"
	"strings"
	"testing"

	"savant/grammar"
)

var some = grammar.Grammar{
	Rules: map[string][]grammar.Rule{
		"sum":   grammar.Rules("term", "$0", "sum + term", "($0+$2)"),
		"any":   grammar.Rules("term", "$0", "any + any", "($0+$2)"),
		"term":  grammar.Rules("var", "$0", "con names", "<$0$1>", "[ number ]", "#$1"),
		"names": grammar.Rules("", "", "var names", " $0$1"),
	},
	Others: map[string]func(words []string) (string, bool){
		"number": func(words []string) (string, bool) { return strings.Join(words, ""), words[0] != "0" },
	},
}

// All ways are told in which words are a piece, each by its tree.
func TestReadings(t *testing.T) {
	for _, c := range []struct {
		piece, words string
		want         []string
	}{
		{"sum", "a", []string{"a"}},
		{"sum", "a + K b c + d", []string{"((a+<K b c>)+d)"}},
		{"any", "a + b + c", []string{"(a+(b+c))", "((a+b)+c)"}},
		{"term", "K", []string{"<K>"}},
		{"term", "[ 1 2 3 ]", []string{"#123"}},
		{"term", "[ 0 1 ]", nil},
		{"term", "[ ]", nil},
		{"names", "", []string{""}},
		{"names", "a b", []string{" a b"}},
		{"names", "a K", nil},
		{"sum", "", nil},
		{"sum", "a +", nil},
		{"sum", "+ a", nil},
		{"sum", "in", nil},
		{"term", "a b", nil},
	} {
		if got := some.Readings(c.piece, strings.Fields(c.words)); !slices.Equal(got, c.want) {
			t.Errorf("%q as %s: %q, not %q", c.words, c.piece, got, c.want)
		}
	}
}
