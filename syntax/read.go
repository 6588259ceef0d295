package syntax

import (
	"savant/api"
	"savant/reading"
	"savant/types"
)

// reader has methods that read one piece of the grammar each, and tell whether it stood there.
type reader struct{ reading.Tokens }

// ahead makes of a method of the reader what reads the same piece at the begin of tokens; rest is what stands behind it.
func ahead[T any](piece func(r *reader) (T, bool)) func(l []api.Token) (t T, rest []api.Token, ok bool) {
	return func(l []api.Token) (T, []api.Token, bool) {
		r := reader{reading.Tokens{Rest: l}}
		t, ok := piece(&r)
		return t, r.Rest, ok
	}
}

func (r *reader) program() ([]Decl, bool) {
	return reading.UpToEnd(&r.Tokens, r.decl)
}

func (r *reader) decl() (d Decl, ok bool) {
	if r.Word("data") {
		return r.data()
	}
	d.Name, ok = r.Variable()
	switch {
	case !ok:
	case r.Sign(":"):
		d.Kind = api.DeclSig
		d.T, ok = r.whole()
	case r.Sign("="):
		d.Kind = api.DeclBind
		d.E, ok = r.expr()
	default:
		ok = false
	}
	return d, ok
}

// data reads what stands behind the word data.
func (r *reader) data() (d Decl, ok bool) {
	d.Kind = api.DeclData
	if d.Name, ok = r.TakeAny(api.TokCon); !ok {
		return d, false
	}
	if d.Params, ok = r.Variables(); !ok {
		return d, false
	}
	d.Cons, ok = reading.InBraces(&r.Tokens, r.con)
	return d, ok
}

func (r *reader) con() (c Con, ok bool) {
	if c.Name, ok = r.TakeAny(api.TokCon); !ok || !r.Sign(":") {
		return c, false
	}
	c.T, ok = r.whole()
	return c, ok
}

func (r *reader) expr() (Expr, bool) {
	switch {
	case r.Sign(`\`):
		return r.lambda()
	case r.Word("let"):
		return r.let()
	case r.Word("case"):
		return r.choice()
	}
	return r.application()
}

// lambda reads what stands behind `\`.
func (r *reader) lambda() (Expr, bool) {
	name, ok := r.Variable()
	if !ok || !r.Sign("->") {
		return Expr{}, false
	}
	kid, ok := r.expr()
	return Expr{Kind: api.ELam, Name: name, Kids: []Expr{kid}}, ok
}

// let reads what stands behind the word let.
func (r *reader) let() (e Expr, ok bool) {
	e.Kind = api.ELet
	if e.Name, ok = r.Variable(); !ok {
		return e, false
	}
	if e.Told = r.Sign(":"); e.Told {
		if e.T, ok = r.whole(); !ok {
			return e, false
		}
	}
	if !r.Sign("=") {
		return e, false
	}
	first, ok := r.expr()
	if !ok || !r.Word("in") {
		return e, false
	}
	second, ok := r.expr()
	e.Kids = []Expr{first, second}
	return e, ok
}

// choice reads what stands behind the word case.
func (r *reader) choice() (e Expr, ok bool) {
	e.Kind = api.ECase
	kid, ok := r.expr()
	if !ok || !r.Word("of") {
		return e, false
	}
	e.Kids = []Expr{kid}
	e.Alts, ok = reading.InBraces(&r.Tokens, r.alternative)
	return e, ok
}

func (r *reader) alternative() (a Alt, ok bool) {
	if a.Con, ok = r.TakeAny(api.TokCon); !ok {
		return a, false
	}
	if a.Vars, ok = r.Variables(); !ok || !r.Sign("->") {
		return a, false
	}
	a.Body, ok = r.expr()
	return a, ok
}

func (r *reader) application() (Expr, bool) {
	e, ok := r.atom()
	if !ok {
		return e, false
	}
	args, ok := reading.Longer(nil, r.atAtom, r.atom)
	for _, a := range args {
		e = Expr{Kind: api.EApp, Kids: []Expr{e, a}}
	}
	return e, ok
}

func (r *reader) atAtom() bool {
	return r.AtVariable() || r.Next().Kind == api.TokCon || r.At(api.TokSign, "(")
}

func (r *reader) atom() (Expr, bool) {
	if name, ok := r.Variable(); ok {
		return Expr{Kind: api.EVar, Name: name}, true
	}
	if r.Sign("(") {
		return r.inParentheses()
	}
	name, ok := r.TakeAny(api.TokCon)
	return Expr{Kind: api.ECon, Name: name}, ok
}

// inParentheses reads what stands behind `(`.
func (r *reader) inParentheses() (Expr, bool) {
	e, ok := r.expr()
	if ok && r.Sign(":") {
		var t types.Type
		t, ok = r.whole()
		e = Expr{Kind: api.EAnn, T: t, Kids: []Expr{e}}
	}
	return e, ok && r.Sign(")")
}

// whole reads a type.
func (r *reader) whole() (types.Type, bool) {
	return reading.Piece(&r.Tokens, types.Read)
}
