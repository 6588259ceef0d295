package syntax_test

import (
	"slices"
	"strings"

	"savant/api"
	"savant/syntax"
	"savant/types"
)

// tree writes an expression with all its parts in parentheses, and nothing left out that its kind has.
func tree(e syntax.Expr) string {
	parts := []string{[]string{"none", "var", "con", "lam", "app", "let", "case", "ann"}[e.Kind]}
	if e.Name != "" {
		parts = append(parts, e.Name)
	}
	if e.Told || e.Kind == api.EAnn {
		parts = append(parts, "<"+e.T.Print()+">")
	}
	for _, k := range e.Kids {
		parts = append(parts, tree(k))
	}
	for _, a := range e.Alts {
		parts = append(parts, "["+strings.Join(append([]string{a.Con}, a.Vars...), " ")+" "+tree(a.Body)+"]")
	}
	return "(" + strings.Join(parts, " ") + ")"
}

// trees writes declarations likewise.
func trees(l []syntax.Decl) string {
	var parts []string
	for _, d := range l {
		switch d.Kind {
		case api.DeclData:
			part := "{data " + strings.Join(append([]string{d.Name}, d.Params...), " ")
			for _, c := range d.Cons {
				part += " [" + c.Name + " <" + c.T.Print() + ">]"
			}
			parts = append(parts, part+"}")
		case api.DeclSig:
			parts = append(parts, "{sig "+d.Name+" <"+d.T.Print()+">}")
		case api.DeclBind:
			parts = append(parts, "{bind "+d.Name+" "+tree(d.E)+"}")
		}
	}
	return strings.Join(parts, " ")
}

// rule is one of those things that a piece may be, and how its tree is written: $0 is what its first part is written as, and so on.
type rule struct {
	parts []string
	tree  string
}

// rules are told by texts: a rule's parts, and its tree.
func rules(texts ...string) []rule {
	var l []rule
	for i := 0; i < len(texts); i += 2 {
		l = append(l, rule{strings.Fields(texts[i]), texts[i+1]})
	}
	return l
}

// The reference is the chapter's grammar, a rule for each case.
var grammar = map[string][]rule{
	"program": rules("", "", "decls", "$0"),
	"decls":   rules("decl", "$0", "decl ; decls", "$0 $2"),
	"decl":    rules("data con vars { }", "{data $1$2}", "data con vars { cons }", "{data $1$2 $4}", "var : type", "{sig $0 $2}", "var = expr", "{bind $0 $2}"),
	"cons":    rules("con : type", "[$0 $2]", "con : type ; cons", "[$0 $2] $4"),
	"vars":    rules("", "", "var vars", " $0$1"),
	"expr": rules(`\ var -> expr`, "(lam $1 $3)", "let var = expr in expr", "(let $1 $3 $5)", "let var : type = expr in expr", "(let $1 $3 $5 $7)",
		"case expr of { }", "(case $1)", "case expr of { alts }", "(case $1 $4)", "app", "$0"),
	"alts": rules("alt", "$0", "alt ; alts", "$0 $2"),
	"alt":  rules("con vars -> expr", "[$0$1 $3]"),
	"app":  rules("atom", "$0", "app atom", "(app $0 $1)"),
	"atom": rules("var", "(var $0)", "con", "(con $0)", "( expr )", "$1", "( expr : type )", "(ann $3 $1)"),
}

// span is a piece that some of the words may be.
type span struct {
	piece    string
	from, to int
}

// reference cuts words in all ways in which a rule can, and tries each; what it found stands in a map.
type reference struct {
	words []string
	found map[span][]string
}

// readings are the trees of all ways in which words are a piece: at most one, if the grammar leaves no choice.
func readings(piece string, words []string) []string {
	r := reference{words, map[span][]string{}}
	return r.of(span{piece, 0, len(words)})
}

func (r reference) of(s span) []string {
	if _, ok := grammar[s.piece]; !ok {
		return ofTokens(s.piece, r.words[s.from:s.to])
	}
	if l, ok := r.found[s]; ok {
		return l
	}
	var l []string
	for _, x := range grammar[s.piece] {
		for _, parts := range r.cut(x.parts, s.from, s.to) {
			l = append(l, filled(x.tree, parts))
		}
	}
	r.found[s] = l
	return l
}

// cut is how all parts of a rule are written, in each way in which they are the words from one to another.
func (r reference) cut(parts []string, from, to int) [][]string {
	if len(parts) == 0 && from == to {
		return [][]string{nil}
	}
	if len(parts) == 0 || to-from < atLeast(parts) {
		return nil
	}
	first, most := from+atLeast(parts[:1]), to-atLeast(parts[1:])
	if isToken(parts[0]) {
		most = min(most, first)
	}
	var ways [][]string
	for at := first; at <= most; at++ {
		l := r.of(span{parts[0], from, at})
		if len(l) == 0 {
			continue
		}
		for _, others := range r.cut(parts[1:], at, to) {
			for _, one := range l {
				ways = append(ways, append([]string{one}, others...))
			}
		}
	}
	return ways
}

// isToken tells whether a part is one token: that word, or one of a kind.
func isToken(part string) bool {
	_, isPiece := grammar[part]
	return !isPiece && part != "type"
}

// atLeast is how many words parts have at the least.
func atLeast(parts []string) int {
	n := 0
	for _, p := range parts {
		if p != "vars" {
			n++
		}
	}
	return n
}

func filled(tree string, parts []string) string {
	for i, p := range slices.Backward(parts) {
		tree = strings.ReplaceAll(tree, "$"+string(rune('0'+i)), p)
	}
	return tree
}

func ofTokens(piece string, words []string) []string {
	if piece == "type" {
		if t, e := types.Parse(strings.Join(words, " ")); e == api.OK {
			return []string{"<" + t.Print() + ">"}
		}
		return nil
	}
	if w := words[0]; w == piece || piece == "var" && isVar(w) || piece == "con" && isCon(w) {
		return words
	}
	return nil
}

func isVar(s string) bool {
	return 'a' <= s[0] && s[0] <= 'z' && !slices.Contains([]string{"data", "let", "in", "case", "of", "forall"}, s)
}

func isCon(s string) bool { return 'A' <= s[0] && s[0] <= 'Z' }
