package syntax

import (
	"savant/api"
	"savant/writing"
)

// Places where an expression stands. What needs parentheses in one of them needs them in those behind it too.
const (
	alone = iota
	leftKid
	rightKid
)

// Print is the text of a program.
func Print(l []Decl) string {
	var w writer
	writing.Separate(&w.Text, l, w.decl)
	return w.String()
}

// Print is e's text.
func (e Expr) Print() string {
	var w writer
	w.expr(e, alone)
	return w.String()
}

// writer has methods that write one piece of the grammar each.
type writer struct{ writing.Text }

func (w *writer) decl(d Decl) {
	switch d.Kind {
	case api.DeclData:
		w.Put("data ", d.Name)
		w.Names(" ", d.Params)
		w.Put(" ")
		writing.Brace(&w.Text, d.Cons, w.con)
	case api.DeclSig:
		w.Put(d.Name, " : ", d.T.Print())
	case api.DeclBind:
		w.Put(d.Name, " = ")
		w.expr(d.E, alone)
	}
}

func (w *writer) con(c Con) {
	w.Put(c.Name, " : ", c.T.Print())
}

func (w *writer) expr(e Expr, place int) {
	if !e.mustBeInParentheses(place) {
		w.bare(e)
		return
	}
	w.Put("(")
	w.bare(e)
	w.Put(")")
}

// mustBeInParentheses is not asked of those that a type is told of: they have theirs wherever they stand.
func (e Expr) mustBeInParentheses(place int) bool {
	switch e.Kind {
	case api.ELam, api.ELet, api.ECase:
		return place != alone
	case api.EApp:
		return place == rightKid
	}
	return false
}

func (w *writer) bare(e Expr) {
	switch e.Kind {
	case api.ELam:
		w.Put(`\`, e.Name, " -> ")
		w.expr(e.kid(0), alone)
	case api.EApp:
		w.expr(e.kid(0), leftKid)
		w.Put(" ")
		w.expr(e.kid(1), rightKid)
	case api.ELet:
		w.let(e)
	case api.ECase:
		w.Put("case ")
		w.expr(e.kid(0), alone)
		w.Put(" of ")
		writing.Brace(&w.Text, e.Alts, w.alternative)
	case api.EAnn:
		w.Put("(")
		w.expr(e.kid(0), alone)
		w.Put(" : ", e.T.Print(), ")")
	default:
		w.Put(e.Name)
	}
}

func (w *writer) let(e Expr) {
	w.Put("let ", e.Name)
	if e.Told {
		w.Put(" : ", e.T.Print())
	}
	w.Put(" = ")
	w.expr(e.kid(0), alone)
	w.Put(" in ")
	w.expr(e.kid(1), alone)
}

func (w *writer) alternative(a Alt) {
	w.Put(a.Con)
	w.Names(" ", a.Vars)
	w.Put(" -> ")
	w.expr(a.Body, alone)
}

// kid is e's i-th Kid: an expression of no kind, of which nothing is written, where e has none.
func (e Expr) kid(i int) Expr {
	if i >= len(e.Kids) {
		return Expr{}
	}
	return e.Kids[i]
}
