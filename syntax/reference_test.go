package syntax_test

import (
	"strings"

	"savant/api"
	"savant/grammar"
	"savant/syntax"
	"savant/types"
)

// tree writes an expression with all its parts in parentheses, and nothing left out that its kind has.
func tree(e syntax.Expr) string {
	parts := []string{[]string{"none", "var", "con", "lam", "app", "let", "case", "ann"}[e.Kind]}
	if e.Name != "" {
		parts = append(parts, e.Name)
	}
	if e.Told || e.Kind == api.EAnn {
		parts = append(parts, "<"+e.T.Print()+">")
	}
	for _, k := range e.Kids {
		parts = append(parts, tree(k))
	}
	for _, a := range e.Alts {
		parts = append(parts, "["+strings.Join(append([]string{a.Con}, a.Vars...), " ")+" "+tree(a.Body)+"]")
	}
	return "(" + strings.Join(parts, " ") + ")"
}

// trees writes declarations likewise.
func trees(l []syntax.Decl) string {
	var parts []string
	for _, d := range l {
		switch d.Kind {
		case api.DeclData:
			part := "{data " + strings.Join(append([]string{d.Name}, d.Params...), " ")
			for _, c := range d.Cons {
				part += " [" + c.Name + " <" + c.T.Print() + ">]"
			}
			parts = append(parts, part+"}")
		case api.DeclSig:
			parts = append(parts, "{sig "+d.Name+" <"+d.T.Print()+">}")
		case api.DeclBind:
			parts = append(parts, "{bind "+d.Name+" "+tree(d.E)+"}")
		}
	}
	return strings.Join(parts, " ")
}

// The reference is the chapter's grammar, a rule for each case.
var chapter = grammar.Grammar{Rules: map[string][]grammar.Rule{
	"program": grammar.Rules("", "", "decls", "$0"),
	"decls":   grammar.Rules("decl", "$0", "decl ; decls", "$0 $2"),
	"decl":    grammar.Rules("data con vars { }", "{data $1$2}", "data con vars { cons }", "{data $1$2 $4}", "var : type", "{sig $0 $2}", "var = expr", "{bind $0 $2}"),
	"cons":    grammar.Rules("con : type", "[$0 $2]", "con : type ; cons", "[$0 $2] $4"),
	"vars":    grammar.Rules("", "", "var vars", " $0$1"),
	"expr": grammar.Rules(`\ var -> expr`, "(lam $1 $3)", "let var = expr in expr", "(let $1 $3 $5)", "let var : type = expr in expr", "(let $1 $3 $5 $7)",
		"case expr of { }", "(case $1)", "case expr of { alts }", "(case $1 $4)", "app", "$0"),
	"alts": grammar.Rules("alt", "$0", "alt ; alts", "$0 $2"),
	"alt":  grammar.Rules("con vars -> expr", "[$0$1 $3]"),
	"app":  grammar.Rules("atom", "$0", "app atom", "(app $0 $1)"),
	"atom": grammar.Rules("var", "(var $0)", "con", "(con $0)", "( expr )", "$1", "( expr : type )", "(ann $3 $1)"),
}, Others: map[string]func(words []string) (string, bool){"type": typeTree}}

func typeTree(words []string) (string, bool) {
	t, e := types.Parse(strings.Join(words, " "))
	return "<" + t.Print() + ">", e == api.OK
}
