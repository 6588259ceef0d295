package erase_test

import (
	"strings"

	"savant/api"
	"savant/coerce"
	"savant/grammar"
	"savant/types"
)

// The references are the grammars of chapters 12 and 8. Each rule tells, instead of a tree, the text of what is left: so they know nothing of trees. What is left stands in parentheses, whether these must stand or not.

var terms = grammar.Grammar{Rules: map[string][]grammar.Rule{
	"term": grammar.Rules("var", "$0", "con", "$0", "( form )", "$1"),
	"form": grammar.Rules(`\ var : type . term`, `(\ $1 -> $5)`, "! var . term", "$3",
		"term term", "($0 $1)", "term @ type", "$0", "term ~ co", "$0", "term |> co", "$0",
		"let var : type = term in term", "(let $1 = $5 in $7)",
		"case term : type of { }", "(case $1 of {})", "case term : type of { alts }", "(case $1 of {$6})"),
	"alts":  grammar.Rules("alt", "$0", "alt ; alts", "$0; $2"),
	"alt":   grammar.Rules("con types cos vars -> term", "$0 $3 -> $5"),
	"types": grammar.Rules("", "", "@ var types", ""),
	"cos":   grammar.Rules("", "", "~ var cos", ""),
	"vars":  grammar.Rules("", "", "var vars", "$0 $1"),
}, Others: map[string]func(words []string) (string, bool){
	"type": isOne(types.Parse),
	"co":   isOne(coerce.Parse),
}}

var exprs = grammar.Grammar{Rules: map[string][]grammar.Rule{
	"expr": grammar.Rules(`\ var -> expr`, `(\ $1 -> $3)`, "let var = expr in expr", "(let $1 = $3 in $5)", "let var : type = expr in expr", "(let $1 = $5 in $7)",
		"case expr of { }", "(case $1 of {})", "case expr of { alts }", "(case $1 of {$4})", "app", "$0"),
	"alts": grammar.Rules("alt", "$0", "alt ; alts", "$0; $2"),
	"alt":  grammar.Rules("con vars -> expr", "$0 $1 -> $3"),
	"vars": grammar.Rules("", "", "var vars", "$0 $1"),
	"app":  grammar.Rules("atom", "$0", "app atom", "($0 $1)"),
	"atom": grammar.Rules("var", "$0", "con", "$0", "( expr )", "$1", "( expr : type )", "$1"),
}, Others: map[string]func(words []string) (string, bool){"type": isOne(types.Parse)}}

// isOne makes the function that tells whether words are one of what parse reads, of which nothing is left.
func isOne[T any](parse func(s string) (T, api.Errno)) func(words []string) (string, bool) {
	return func(words []string) (string, bool) {
		_, e := parse(strings.Join(words, " "))
		return "", e == api.OK
	}
}
