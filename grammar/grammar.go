// Package grammar is what tests share that hold what a layer reads against its chapter's grammar: words are cut in all ways in which a rule can be gone by, and each is tried.
package grammar

import (
	"slices"
	"strings"
)

// Rule is one of those things that a piece may be, and how its tree is written: $0 is what its first part is written as, and so on.
type Rule struct {
	parts []string
	tree  string
}

// Rules are told by texts: a rule's parts, and its tree.
func Rules(texts ...string) []Rule {
	var l []Rule
	for i := 0; i < len(texts); i += 2 {
		l = append(l, Rule{parts: strings.Fields(texts[i]), tree: texts[i+1]})
	}
	return l
}

// Grammar is pieces. Of some the rules are told. Of others, that are some words or more, it is asked how words are written as one, and whether they are one. All others are a word: any variable `var`, any constructor `con`, or that word itself.
type Grammar struct {
	Rules  map[string][]Rule
	Others map[string]func(words []string) (tree string, ok bool)
}

// Readings are the trees of all ways in which words are a piece: at most one, if the grammar leaves no choice.
func (g Grammar) Readings(piece string, words []string) []string {
	c := chart{Grammar: g, words: words, found: map[span][]string{}}
	return c.of(span{piece: piece, from: 0, to: len(words)})
}

// span is a piece that some of the words may be.
type span struct {
	piece    string
	from, to int
}

// chart is what was found of words.
type chart struct {
	Grammar
	words []string
	found map[span][]string
}

func (c chart) of(s span) []string {
	rules, ok := c.Rules[s.piece]
	if !ok {
		return c.ofWords(s.piece, c.words[s.from:s.to])
	}
	if l, ok := c.found[s]; ok {
		return l
	}
	var l []string
	for _, x := range rules {
		for _, parts := range c.cut(x.parts, s.from, s.to) {
			l = append(l, filled(x.tree, parts))
		}
	}
	c.found[s] = l
	return l
}

func (c chart) ofWords(piece string, words []string) []string {
	if read, ok := c.Others[piece]; ok {
		if tree, ok := read(words); ok {
			return []string{tree}
		}
		return nil
	}
	if w := words[0]; w == piece || piece == "var" && isVar(w) || piece == "con" && isCon(w) {
		return words
	}
	return nil
}

// cut is how all parts of a rule are written, in each way in which they are the words from one to another.
func (c chart) cut(parts []string, from, to int) [][]string {
	if len(parts) == 0 && from == to {
		return [][]string{nil}
	}
	if len(parts) == 0 || to-from < c.atLeast(parts) {
		return nil
	}
	first, most := from+c.atLeast(parts[:1]), to-c.atLeast(parts[1:])
	if c.isWord(parts[0]) {
		most = min(most, first)
	}
	var ways [][]string
	for at := first; at <= most; at++ {
		l := c.of(span{piece: parts[0], from: from, to: at})
		if len(l) == 0 {
			continue
		}
		for _, others := range c.cut(parts[1:], at, to) {
			for _, one := range l {
				ways = append(ways, slices.Concat([]string{one}, others))
			}
		}
	}
	return ways
}

// isWord tells whether a piece is one word.
func (c chart) isWord(piece string) bool {
	_, hasRules := c.Rules[piece]
	_, isOther := c.Others[piece]
	return !hasRules && !isOther
}

// atLeast is how many words parts have at the least.
func (c chart) atLeast(parts []string) int {
	n := 0
	for _, p := range parts {
		if !slices.ContainsFunc(c.Rules[p], func(r Rule) bool { return len(r.parts) == 0 }) {
			n++
		}
	}
	return n
}

func filled(tree string, parts []string) string {
	for i, p := range slices.Backward(parts) {
		tree = strings.ReplaceAll(tree, "$"+string(rune('0'+i)), p)
	}
	return tree
}

func isVar(s string) bool {
	return 'a' <= s[0] && s[0] <= 'z' && !slices.Contains([]string{"data", "let", "in", "case", "of", "forall"}, s)
}

func isCon(s string) bool { return 'A' <= s[0] && s[0] <= 'Z' }
