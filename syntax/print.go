package syntax

import (
	"strings"

	"savant/api"
)

// Places where an expression stands. What needs parentheses in one of them needs them in those behind it too.
const (
	alone = iota
	leftKid
	rightKid
)

// Print is the text of a program.
func Print(l []Decl) string {
	var w writer
	separate(&w, l, w.decl)
	return w.String()
}

// Print is e's text.
func (e Expr) Print() string {
	var w writer
	w.expr(e, alone)
	return w.String()
}

// writer has methods that write one piece of the grammar each.
type writer struct{ strings.Builder }

// put writes texts one behind the other.
func (w *writer) put(texts ...string) {
	for _, s := range texts {
		w.WriteString(s)
	}
}

// separate writes the pieces of l with `; ` between them.
func separate[T any](w *writer, l []T, piece func(t T)) {
	for i, t := range l {
		if i > 0 {
			w.put("; ")
		}
		piece(t)
	}
}

// brace writes the pieces of l in braces.
func brace[T any](w *writer, l []T, piece func(t T)) {
	w.put("{")
	separate(w, l, piece)
	w.put("}")
}

func (w *writer) decl(d Decl) {
	switch d.Kind {
	case api.DeclData:
		w.put("data ", d.Name)
		w.names(d.Params)
		w.put(" ")
		brace(w, d.Cons, w.con)
	case api.DeclSig:
		w.put(d.Name, " : ", d.T.Print())
	case api.DeclBind:
		w.put(d.Name, " = ")
		w.expr(d.E, alone)
	}
}

func (w *writer) con(c Con) {
	w.put(c.Name, " : ", c.T.Print())
}

// names writes each with a blank ahead of it.
func (w *writer) names(l []string) {
	for _, name := range l {
		w.put(" ", name)
	}
}

func (w *writer) expr(e Expr, place int) {
	if !e.mustBeInParentheses(place) {
		w.bare(e)
		return
	}
	w.put("(")
	w.bare(e)
	w.put(")")
}

// mustBeInParentheses is not asked of those that a type is told of: they have theirs wherever they stand.
func (e Expr) mustBeInParentheses(place int) bool {
	switch e.Kind {
	case api.ELam, api.ELet, api.ECase:
		return place != alone
	case api.EApp:
		return place == rightKid
	}
	return false
}

func (w *writer) bare(e Expr) {
	switch e.Kind {
	case api.ELam:
		w.put(`\`, e.Name, " -> ")
		w.expr(e.kid(0), alone)
	case api.EApp:
		w.expr(e.kid(0), leftKid)
		w.put(" ")
		w.expr(e.kid(1), rightKid)
	case api.ELet:
		w.let(e)
	case api.ECase:
		w.put("case ")
		w.expr(e.kid(0), alone)
		w.put(" of ")
		brace(w, e.Alts, w.alternative)
	case api.EAnn:
		w.put("(")
		w.expr(e.kid(0), alone)
		w.put(" : ", e.T.Print(), ")")
	default:
		w.put(e.Name)
	}
}

func (w *writer) let(e Expr) {
	w.put("let ", e.Name)
	if e.Told {
		w.put(" : ", e.T.Print())
	}
	w.put(" = ")
	w.expr(e.kid(0), alone)
	w.put(" in ")
	w.expr(e.kid(1), alone)
}

func (w *writer) alternative(a Alt) {
	w.put(a.Con)
	w.names(a.Vars)
	w.put(" -> ")
	w.expr(a.Body, alone)
}

// kid is e's i-th Kid: an expression of no kind, of which nothing is written, where e has none.
func (e Expr) kid(i int) Expr {
	if i >= len(e.Kids) {
		return Expr{}
	}
	return e.Kids[i]
}
