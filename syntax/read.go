package syntax

import (
	"savant/api"
	"savant/reading"
	"savant/types"
)

// reader has methods that read one piece of the grammar each, and tell whether it stood there.
type reader struct{ reading.Tokens }

// ahead makes of a method of the reader what reads the same piece at the begin of tokens; rest is what stands behind it.
func ahead[T any](piece func(r *reader) (T, bool)) func(l []api.Token) (t T, rest []api.Token, ok bool) {
	return func(l []api.Token) (T, []api.Token, bool) {
		r := reader{reading.Tokens{Rest: l}}
		t, ok := piece(&r)
		return t, r.Rest, ok
	}
}

// longer is l with pieces behind it, one wherever isNext tells that one stands next. It is cut at its end first: what is laid behind it must not overwrite what somebody else's list has there.
func longer[T any](l []T, isNext func() bool, piece func() (T, bool)) ([]T, bool) {
	l = l[:len(l):len(l)]
	for isNext() {
		t, ok := piece()
		if !ok {
			return nil, false
		}
		l = append(l, t)
	}
	return l, true
}

// separated reads one piece or more, with `;` between them.
func separated[T any](r *reader, piece func() (T, bool)) ([]T, bool) {
	first, ok := piece()
	if !ok {
		return nil, false
	}
	return longer([]T{first}, r.separator, piece)
}

// inBraces reads pieces with `;` between them, or none, in braces.
func inBraces[T any](r *reader, piece func() (T, bool)) (l []T, ok bool) {
	if !r.sign("{") {
		return nil, false
	}
	if r.sign("}") {
		return nil, true
	}
	l, ok = separated(r, piece)
	return l, ok && r.sign("}")
}

func (r *reader) program() ([]Decl, bool) {
	if len(r.Rest) == 0 {
		return nil, true
	}
	return separated(r, r.decl)
}

func (r *reader) decl() (d Decl, ok bool) {
	if r.word("data") {
		return r.data()
	}
	d.Name, ok = r.variable()
	switch {
	case !ok:
	case r.sign(":"):
		d.Kind = api.DeclSig
		d.T, ok = r.whole()
	case r.sign("="):
		d.Kind = api.DeclBind
		d.E, ok = r.expr()
	default:
		ok = false
	}
	return d, ok
}

// data reads what stands behind the word data.
func (r *reader) data() (d Decl, ok bool) {
	d.Kind = api.DeclData
	if d.Name, ok = r.TakeAny(api.TokCon); !ok {
		return d, false
	}
	if d.Params, ok = r.variables(); !ok {
		return d, false
	}
	d.Cons, ok = inBraces(r, r.con)
	return d, ok
}

func (r *reader) con() (c Con, ok bool) {
	if c.Name, ok = r.TakeAny(api.TokCon); !ok || !r.sign(":") {
		return c, false
	}
	c.T, ok = r.whole()
	return c, ok
}

func (r *reader) expr() (Expr, bool) {
	switch {
	case r.sign(`\`):
		return r.lambda()
	case r.word("let"):
		return r.let()
	case r.word("case"):
		return r.choice()
	}
	return r.application()
}

// lambda reads what stands behind `\`.
func (r *reader) lambda() (Expr, bool) {
	name, ok := r.variable()
	if !ok || !r.sign("->") {
		return Expr{}, false
	}
	kid, ok := r.expr()
	return Expr{Kind: api.ELam, Name: name, Kids: []Expr{kid}}, ok
}

// let reads what stands behind the word let.
func (r *reader) let() (e Expr, ok bool) {
	e.Kind = api.ELet
	if e.Name, ok = r.variable(); !ok {
		return e, false
	}
	if e.Told = r.sign(":"); e.Told {
		if e.T, ok = r.whole(); !ok {
			return e, false
		}
	}
	if !r.sign("=") {
		return e, false
	}
	first, ok := r.expr()
	if !ok || !r.word("in") {
		return e, false
	}
	second, ok := r.expr()
	e.Kids = []Expr{first, second}
	return e, ok
}

// choice reads what stands behind the word case.
func (r *reader) choice() (e Expr, ok bool) {
	e.Kind = api.ECase
	kid, ok := r.expr()
	if !ok || !r.word("of") {
		return e, false
	}
	e.Kids = []Expr{kid}
	e.Alts, ok = inBraces(r, r.alternative)
	return e, ok
}

func (r *reader) alternative() (a Alt, ok bool) {
	if a.Con, ok = r.TakeAny(api.TokCon); !ok {
		return a, false
	}
	if a.Vars, ok = r.variables(); !ok || !r.sign("->") {
		return a, false
	}
	a.Body, ok = r.expr()
	return a, ok
}

func (r *reader) application() (Expr, bool) {
	e, ok := r.atom()
	if !ok {
		return e, false
	}
	args, ok := longer(nil, r.atAtom, r.atom)
	for _, a := range args {
		e = Expr{Kind: api.EApp, Kids: []Expr{e, a}}
	}
	return e, ok
}

func (r *reader) atAtom() bool {
	return r.atVariable() || r.Next().Kind == api.TokCon || r.At(api.TokSign, "(")
}

func (r *reader) atom() (Expr, bool) {
	if name, ok := r.variable(); ok {
		return Expr{Kind: api.EVar, Name: name}, true
	}
	if r.sign("(") {
		return r.inParentheses()
	}
	name, ok := r.TakeAny(api.TokCon)
	return Expr{Kind: api.ECon, Name: name}, ok
}

// inParentheses reads what stands behind `(`.
func (r *reader) inParentheses() (Expr, bool) {
	e, ok := r.expr()
	if ok && r.sign(":") {
		var t types.Type
		t, ok = r.whole()
		e = Expr{Kind: api.EAnn, T: t, Kids: []Expr{e}}
	}
	return e, ok && r.sign(")")
}

// whole reads a type.
func (r *reader) whole() (types.Type, bool) {
	return reading.Piece(&r.Tokens, types.Read)
}

// variables reads as many as there are; there may be none.
func (r *reader) variables() ([]string, bool) {
	return longer(nil, r.atVariable, r.variable)
}

func (r *reader) atVariable() bool { return r.Next().Kind == api.TokVar }

func (r *reader) variable() (name string, ok bool) { return r.TakeAny(api.TokVar) }

func (r *reader) separator() bool { return r.sign(";") }

// sign goes past the next token, if it is this sign.
func (r *reader) sign(text string) bool { return r.Take(api.TokSign, text) }

// word goes past the next token, if it is this key word.
func (r *reader) word(text string) bool { return r.Take(api.TokKey, text) }
