package solve

import (
	"savant/api"
	"savant/coerce"
	"savant/reading"
	"savant/types"
)

// read reads a problem that stands at the begin of tokens, as far as it goes; rest is what stands behind it.
func read(l []api.Token) (p Problem, rest []api.Token, ok bool) {
	r := reader{reading.Tokens{Rest: l}}
	p, ok = r.problem()
	if !ok {
		return Problem{}, nil, false
	}
	return p, r.Rest, true
}

// reader has methods that read one piece of the grammar each, and tell whether it stood there.
type reader struct{ reading.Tokens }

func (r *reader) problem() (Problem, bool) {
	var p Problem
	for len(r.Rest) > 0 && !r.At(api.TokSign, "}") {
		if !r.item(&p) {
			return Problem{}, false
		}
	}
	return p, true
}

// item reads one, and lays it onto its list.
func (r *reader) item(p *Problem) bool {
	if r.Take(api.TokSign, "[") {
		in, ok := r.inner()
		p.Inner = append(p.Inner, in)
		return ok
	}
	first := r.Next().Kind
	t, ok := r.whole()
	switch {
	case !ok:
		return false
	case first == api.TokMeta && t.Kind == api.Meta && r.Take(api.TokSign, ";"):
		p.New = append(p.New, t.N)
		return true
	}
	u, ok := r.otherSide()
	p.Wants = append(p.Wants, Want{L: t, R: u})
	return ok && r.Take(api.TokSign, ";")
}

// inner reads what stands behind `[`.
func (r *reader) inner() (in Inner, ok bool) {
	for name, ok := r.TakeAny(api.TokVar); ok; name, ok = r.TakeAny(api.TokVar) {
		in.Names = append(in.Names, name)
	}
	for r.Take(api.TokSign, ",") {
		g, ok := r.given()
		if !ok {
			return Inner{}, false
		}
		in.Givens = append(in.Givens, g)
	}
	if !r.Take(api.TokSign, "]") || !r.Take(api.TokSign, "{") {
		return Inner{}, false
	}
	in.P, ok = r.problem()
	return in, ok && r.Take(api.TokSign, "}")
}

func (r *reader) given() (g coerce.Given, ok bool) {
	g.Name, ok = r.TakeAny(api.TokVar)
	if !ok || !r.Take(api.TokSign, ":") {
		return coerce.Given{}, false
	}
	if g.L, ok = r.whole(); !ok {
		return coerce.Given{}, false
	}
	g.R, ok = r.otherSide()
	return g, ok
}

// otherSide reads `~` and a type.
func (r *reader) otherSide() (types.Type, bool) {
	if !r.Take(api.TokSign, "~") {
		return types.Type{}, false
	}
	return r.whole()
}

// whole reads a type.
func (r *reader) whole() (types.Type, bool) {
	return reading.Piece(&r.Tokens, types.Read)
}
