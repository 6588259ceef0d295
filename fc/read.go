package fc

import (
	"savant/api"
	"savant/coerce"
	"savant/reading"
	"savant/types"
)

// whole reads a text that is one piece of the grammar.
func whole[T any](s string, piece func(r *reader) (T, bool)) (T, api.Errno) {
	return reading.Whole(s, func(l []api.Token) (t T, rest []api.Token, ok bool) {
		r := reader{reading.Tokens{Rest: l}}
		t, ok = piece(&r)
		return t, r.Rest, ok
	}, api.ErrTerm)
}

// reader has methods that read one piece of the grammar each, and tell whether it stood there.
type reader struct{ reading.Tokens }

func (r *reader) defs() ([]Def, bool) {
	return reading.UpToEnd(&r.Tokens, r.def)
}

func (r *reader) def() (d Def, ok bool) {
	if d.Name, d.T, ok = r.typed(); !ok || !r.Sign("=") {
		return d, false
	}
	d.E, ok = r.term()
	return d, ok
}

// typed reads a variable and its type.
func (r *reader) typed() (name string, t types.Type, ok bool) {
	if name, ok = r.Variable(); !ok || !r.Sign(":") {
		return name, t, false
	}
	t, ok = r.ofType()
	return name, t, ok
}

func (r *reader) ofType() (types.Type, bool) {
	return reading.Piece(&r.Tokens, types.Read)
}

func (r *reader) proof() (coerce.Co, bool) {
	return reading.Piece(&r.Tokens, coerce.Read)
}

func (r *reader) term() (Term, bool) {
	if name, ok := r.Variable(); ok {
		return Term{Kind: api.FVar, Name: name}, true
	}
	if name, ok := r.TakeAny(api.TokCon); ok {
		return Term{Kind: api.FCon, Name: name}, true
	}
	if !r.Sign("(") {
		return Term{}, false
	}
	t, ok := r.form()
	return t, ok && r.Sign(")")
}

func (r *reader) form() (Term, bool) {
	switch {
	case r.Sign(`\`):
		return r.lambda()
	case r.Sign("!"):
		return r.typeLambda()
	case r.Word("let"):
		return r.let()
	case r.Word("case"):
		return r.choice()
	}
	return r.application()
}

// lambda reads what stands behind `\`.
func (r *reader) lambda() (t Term, ok bool) {
	t.Kind = api.FLam
	if t.Name, t.T, ok = r.typed(); !ok || !r.Sign(".") {
		return t, false
	}
	return r.nextKid(t)
}

// typeLambda reads what stands behind `!`.
func (r *reader) typeLambda() (t Term, ok bool) {
	t.Kind = api.FTyLam
	if t.Name, ok = r.Variable(); !ok || !r.Sign(".") {
		return t, false
	}
	return r.nextKid(t)
}

// let reads what stands behind the word let.
func (r *reader) let() (t Term, ok bool) {
	t.Kind = api.FLet
	if t.Name, t.T, ok = r.typed(); !ok || !r.Sign("=") {
		return t, false
	}
	if t, ok = r.nextKid(t); !ok || !r.Word("in") {
		return t, false
	}
	return r.nextKid(t)
}

// choice reads what stands behind the word case.
func (r *reader) choice() (t Term, ok bool) {
	t.Kind = api.FCase
	if t, ok = r.nextKid(t); !ok || !r.Sign(":") {
		return t, false
	}
	if t.T, ok = r.ofType(); !ok || !r.Word("of") {
		return t, false
	}
	t.Alts, ok = reading.InBraces(&r.Tokens, r.alternative)
	return t, ok
}

func (r *reader) alternative() (a Alt, ok bool) {
	if a.Con, ok = r.TakeAny(api.TokCon); !ok {
		return a, false
	}
	if a.Types, ok = r.behindEach("@"); !ok {
		return a, false
	}
	if a.Cos, ok = r.behindEach("~"); !ok {
		return a, false
	}
	if a.Vars, ok = r.Variables(); !ok || !r.Sign("->") {
		return a, false
	}
	a.Body, ok = r.term()
	return a, ok
}

// behindEach reads variables, each behind this sign; there may be none.
func (r *reader) behindEach(sign string) ([]string, bool) {
	return reading.Longer(nil, func() bool { return r.Sign(sign) }, r.Variable)
}

// application reads a term, and what it is applied to or cast by.
func (r *reader) application() (t Term, ok bool) {
	if t, ok = r.nextKid(t); !ok {
		return t, false
	}
	switch {
	case r.Sign("@"):
		t.Kind = api.FTyApp
		t.T, ok = r.ofType()
	case r.Sign("~"):
		t.Kind = api.FCoApp
		t.Co, ok = r.proof()
	case r.Sign("|>"):
		t.Kind = api.FCast
		t.Co, ok = r.proof()
	default:
		t.Kind = api.FApp
		return r.nextKid(t)
	}
	return t, ok
}

// nextKid reads a term, and makes it the next one of t's Kids.
func (r *reader) nextKid(t Term) (Term, bool) {
	k, ok := r.term()
	t.Kids = append(t.Kids, k)
	return t, ok
}
