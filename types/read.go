package types

import (
	"strconv"
	"strings"

	"savant/api"
	"savant/reading"
)

// Read reads a type that stands at the begin of tokens, as far as it goes; rest is what stands behind it.
func Read(l []api.Token) (t Type, rest []api.Token, ok bool) {
	r := reader{reading.Tokens{Rest: l}}
	t, ok = r.whole()
	if !ok {
		return Type{}, nil, false
	}
	return t, r.Rest, true
}

// reader has methods that read one piece of the grammar each, and tell whether it stood there.
type reader struct{ reading.Tokens }

func (r *reader) whole() (Type, bool) {
	if r.Take(api.TokKey, "forall") {
		return r.forAll()
	}
	from, ok := r.app()
	if !ok || !r.Take(api.TokSign, "->") {
		return from, ok
	}
	to, ok := r.whole()
	return Type{Kind: api.Fun, Args: []Type{from, to}}, ok
}

// forAll reads what stands behind the word forall.
func (r *reader) forAll() (Type, bool) {
	var names []string
	for name, ok := r.TakeAny(api.TokVar); ok; name, ok = r.TakeAny(api.TokVar) {
		names = append(names, name)
	}
	if len(names) == 0 || !r.Take(api.TokSign, ".") {
		return Type{}, false
	}
	t, ok := r.whole()
	for i := len(names) - 1; i >= 0; i-- {
		t = Type{Kind: api.All, Name: names[i], Args: []Type{t}}
	}
	return t, ok
}

func (r *reader) app() (Type, bool) {
	name, ok := r.TakeAny(api.TokCon)
	if !ok {
		return r.atom()
	}
	t := Type{Kind: api.Con, Name: name}
	for r.atAtom() {
		a, ok := r.atom()
		if !ok {
			return Type{}, false
		}
		t.Args = append(t.Args, a)
	}
	return t, true
}

func (r *reader) atAtom() bool {
	switch r.Next().Kind {
	case api.TokVar, api.TokMeta, api.TokCon:
		return true
	}
	return r.At(api.TokSign, "(")
}

func (r *reader) atom() (Type, bool) {
	if name, ok := r.TakeAny(api.TokVar); ok {
		return variable(name), true
	}
	if name, ok := r.TakeAny(api.TokCon); ok {
		return Type{Kind: api.Con, Name: name}, true
	}
	if text, ok := r.TakeAny(api.TokMeta); ok {
		n, err := strconv.Atoi(strings.TrimPrefix(text, "?"))
		return Type{Kind: api.Meta, N: n}, err == nil
	}
	return r.inParentheses()
}

func (r *reader) inParentheses() (Type, bool) {
	if !r.Take(api.TokSign, "(") {
		return Type{}, false
	}
	t, ok := r.whole()
	return t, ok && r.Take(api.TokSign, ")")
}
