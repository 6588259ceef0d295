package fc

import (
	"savant/api"
	"savant/types"
	"savant/writing"
)

// Print is the text of definitions.
func Print(l []Def) string {
	var w writer
	writing.Separate(&w.Text, l, w.def)
	return w.String()
}

// Print is t's text.
func (t Term) Print() string {
	var w writer
	w.term(t)
	return w.String()
}

// writer has methods that write one piece of the grammar each.
type writer struct{ writing.Text }

func (w *writer) def(d Def) {
	w.typed(d.Name, d.T)
	w.Put(" = ")
	w.term(d.E)
}

func (w *writer) typed(name string, t types.Type) {
	w.Put(name, " : ", t.Print())
}

func (w *writer) term(t Term) {
	if t.Kind == api.FVar || t.Kind == api.FCon {
		w.Put(t.Name)
		return
	}
	w.Put("(")
	w.form(t)
	w.Put(")")
}

func (w *writer) form(t Term) {
	switch t.Kind {
	case api.FLam:
		w.Put(`\`)
		w.typed(t.Name, t.T)
		w.Put(". ")
		w.kid(t, 0)
	case api.FTyLam:
		w.Put("!", t.Name, ". ")
		w.kid(t, 0)
	case api.FLet:
		w.Put("let ")
		w.typed(t.Name, t.T)
		w.Put(" = ")
		w.kid(t, 0)
		w.Put(" in ")
		w.kid(t, 1)
	case api.FCase:
		w.Put("case ")
		w.kid(t, 0)
		w.Put(" : ", t.T.Print(), " of ")
		writing.Brace(&w.Text, t.Alts, w.alternative)
	default:
		w.application(t)
	}
}

func (w *writer) alternative(a Alt) {
	w.Put(a.Con)
	w.Names(" @", a.Types)
	w.Names(" ~", a.Cos)
	w.Names(" ", a.Vars)
	w.Put(" -> ")
	w.term(a.Body)
}

func (w *writer) application(t Term) {
	w.kid(t, 0)
	switch t.Kind {
	case api.FApp:
		w.Put(" ")
		w.kid(t, 1)
	case api.FTyApp:
		w.Put(" @ ", t.T.Print())
	case api.FCoApp:
		w.Put(" ~ ", t.Co.Print())
	case api.FCast:
		w.Put(" |> ", t.Co.Print())
	}
}

// kid writes t's i-th Kid, if it has one.
func (w *writer) kid(t Term, i int) {
	if i < len(t.Kids) {
		w.term(t.Kids[i])
	}
}
