package fc_test

import (
	"slices"
	"strconv"
	"strings"

	"savant/api"
	"savant/coerce"
	"savant/fc"
	"savant/grammar"
	"savant/types"
)

// tree writes a term with all its parts in parentheses, and nothing left out that its kind has.
func tree(t fc.Term) string {
	parts := []string{[]string{"none", "var", "con", "lam", "tylam", "app", "tyapp", "coapp", "let", "case", "cast"}[t.Kind]}
	if t.Name != "" {
		parts = append(parts, t.Name)
	}
	if t.T.Kind != 0 {
		parts = append(parts, typeTree(t.T))
	}
	for _, k := range t.Kids {
		parts = append(parts, tree(k))
	}
	if t.Co.Kind != 0 {
		parts = append(parts, coTree(t.Co))
	}
	for _, a := range t.Alts {
		parts = append(parts, "["+a.Con+marked(" @", a.Types)+marked(" ~", a.Cos)+marked(" ", a.Vars)+" "+tree(a.Body)+"]")
	}
	return "(" + strings.Join(parts, " ") + ")"
}

func marked(mark string, names []string) string {
	s := ""
	for _, name := range names {
		s += mark + name
	}
	return s
}

// typeTree tells types apart that are the same but for names that are bound.
func typeTree(t types.Type) string { return "<" + t.Print() + ">" }

func coTree(c coerce.Co) string {
	s := "{" + strconv.Itoa(c.Kind) + " " + c.Name + " " + strconv.Itoa(c.N) + " " + typeTree(c.T)
	for _, k := range c.Kids {
		s += " " + coTree(k)
	}
	return s + "}"
}

// trees writes definitions likewise.
func trees(l []fc.Def) string {
	var parts []string
	for _, d := range l {
		parts = append(parts, "{"+d.Name+" "+typeTree(d.T)+" "+tree(d.E)+"}")
	}
	return strings.Join(parts, " ")
}

// The reference for what is read is the chapter's grammar, a rule for each case.
var chapter = grammar.Grammar{Rules: map[string][]grammar.Rule{
	"program": grammar.Rules("", "", "defs", "$0"),
	"defs":    grammar.Rules("def", "$0", "def ; defs", "$0 $2"),
	"def":     grammar.Rules("var : type = term", "{$0 $2 $4}"),
	"term":    grammar.Rules("var", "(var $0)", "con", "(con $0)", "( form )", "$1"),
	"form": grammar.Rules(`\ var : type . term`, "(lam $1 $3 $5)", "! var . term", "(tylam $1 $3)",
		"term term", "(app $0 $1)", "term @ type", "(tyapp $2 $0)", "term ~ co", "(coapp $0 $2)", "term |> co", "(cast $0 $2)",
		"let var : type = term in term", "(let $1 $3 $5 $7)",
		"case term : type of { }", "(case $3 $1)", "case term : type of { alts }", "(case $3 $1 $6)"),
	"alts":  grammar.Rules("alt", "$0", "alt ; alts", "$0 $2"),
	"alt":   grammar.Rules("con types cos vars -> term", "[$0$1$2$3 $5]"),
	"types": grammar.Rules("", "", "@ var types", " @$1$2"),
	"cos":   grammar.Rules("", "", "~ var cos", " ~$1$2"),
	"vars":  grammar.Rules("", "", "var vars", " $0$1"),
}, Others: map[string]func(words []string) (string, bool){
	"type": func(words []string) (string, bool) {
		t, e := types.Parse(strings.Join(words, " "))
		return typeTree(t), e == api.OK
	},
	"co": func(words []string) (string, bool) {
		c, e := coerce.Parse(strings.Join(words, " "))
		return coTree(c), e == api.OK
	},
}}

// The reference for what is put goes through terms to the letter of the chapter: it tells at each leaf, by all names that are bound there, whether that gives way.
type letter struct {
	sort, name string
	t          types.Type
	co         coerce.Co
	u          fc.Term
}

// bound are names, each behind its sort.
type bound []string

func (b bound) with(sort string, names ...string) bound {
	b = slices.Clone(b)
	for _, name := range names {
		b = append(b, sort+" "+name)
	}
	return b
}

// givesWay tells whether a name of a sort is the one in whose place something comes, and is free.
func (l letter) givesWay(sort, name string, b bound) bool {
	return sort == l.sort && name == l.name && !slices.Contains(b, sort+" "+name)
}

func (l letter) term(t fc.Term, b bound) fc.Term {
	switch t.Kind {
	case api.FVar:
		if l.givesWay("var", t.Name, b) {
			return l.u
		}
		return t
	case api.FCon:
		return t
	case api.FLam:
		return fc.Term{Kind: t.Kind, Name: t.Name, T: l.typ(t.T, b), Kids: []fc.Term{l.term(t.Kids[0], b.with("var", t.Name))}}
	case api.FTyLam:
		return fc.Term{Kind: t.Kind, Name: t.Name, Kids: []fc.Term{l.term(t.Kids[0], b.with("type", t.Name))}}
	case api.FApp:
		return fc.Term{Kind: t.Kind, Kids: []fc.Term{l.term(t.Kids[0], b), l.term(t.Kids[1], b)}}
	case api.FTyApp:
		return fc.Term{Kind: t.Kind, T: l.typ(t.T, b), Kids: []fc.Term{l.term(t.Kids[0], b)}}
	case api.FCoApp, api.FCast:
		return fc.Term{Kind: t.Kind, Co: l.coercion(t.Co, b), Kids: []fc.Term{l.term(t.Kids[0], b)}}
	case api.FLet:
		return fc.Term{Kind: t.Kind, Name: t.Name, T: l.typ(t.T, b), Kids: []fc.Term{l.term(t.Kids[0], b), l.term(t.Kids[1], b.with("var", t.Name))}}
	}
	u := fc.Term{Kind: t.Kind, T: l.typ(t.T, b), Kids: []fc.Term{l.term(t.Kids[0], b)}}
	for _, a := range t.Alts {
		a.Body = l.term(a.Body, b.with("type", a.Types...).with("proof", a.Cos...).with("var", a.Vars...))
		u.Alts = append(u.Alts, a)
	}
	return u
}

func (l letter) typ(t types.Type, b bound) types.Type {
	if l.givesWay("type", l.name, b) {
		return t.Put(l.name, l.t)
	}
	return t
}

func (l letter) coercion(c coerce.Co, b bound) coerce.Co {
	switch c.Kind {
	case api.CoVar:
		if l.givesWay("proof", c.Name, b) {
			return l.co
		}
		return c
	case api.CoRefl, api.CoInst:
		c.T = l.typ(c.T, b)
	case api.CoAll:
		b = b.with("type", c.Name)
	}
	kids := c.Kids
	c.Kids = nil
	for _, k := range kids {
		c.Kids = append(c.Kids, l.coercion(k, b))
	}
	return c
}
