package types

import (
	"strconv"
	"strings"

	"savant/api"
)

// Read reads a type that stands at the begin of tokens, as far as it goes; rest is what stands behind it.
func Read(l []api.Token) (t Type, rest []api.Token, ok bool) {
	r := reader{rest: l}
	t, ok = r.whole()
	if !ok {
		return Type{}, nil, false
	}
	return t, r.rest, true
}

// reader has the tokens that are still to be read. Its methods read one piece of the grammar each, and tell whether it stood there.
type reader struct{ rest []api.Token }

func (r *reader) whole() (Type, bool) {
	if r.take(api.TokKey, "forall") {
		return r.forAll()
	}
	from, ok := r.app()
	if !ok || !r.take(api.TokSign, "->") {
		return from, ok
	}
	to, ok := r.whole()
	return Type{Kind: api.Fun, Args: []Type{from, to}}, ok
}

// forAll reads what stands behind the word forall.
func (r *reader) forAll() (Type, bool) {
	var names []string
	for r.next().Kind == api.TokVar {
		names = append(names, r.word())
	}
	if len(names) == 0 || !r.take(api.TokSign, ".") {
		return Type{}, false
	}
	t, ok := r.whole()
	for i := len(names) - 1; i >= 0; i-- {
		t = Type{Kind: api.All, Name: names[i], Args: []Type{t}}
	}
	return t, ok
}

func (r *reader) app() (Type, bool) {
	if r.next().Kind != api.TokCon {
		return r.atom()
	}
	t := Type{Kind: api.Con, Name: r.word()}
	for r.atAtom() {
		a, ok := r.atom()
		if !ok {
			return Type{}, false
		}
		t.Args = append(t.Args, a)
	}
	return t, true
}

func (r *reader) atAtom() bool {
	switch r.next().Kind {
	case api.TokVar, api.TokMeta, api.TokCon:
		return true
	}
	return r.at(api.TokSign, "(")
}

func (r *reader) atom() (Type, bool) {
	switch r.next().Kind {
	case api.TokVar:
		return variable(r.word()), true
	case api.TokCon:
		return Type{Kind: api.Con, Name: r.word()}, true
	case api.TokMeta:
		n, err := strconv.Atoi(strings.TrimPrefix(r.word(), "?"))
		return Type{Kind: api.Meta, N: n}, err == nil
	}
	return r.inParentheses()
}

func (r *reader) inParentheses() (Type, bool) {
	if !r.take(api.TokSign, "(") {
		return Type{}, false
	}
	t, ok := r.whole()
	return t, ok && r.take(api.TokSign, ")")
}

// next is the next token: one of no kind at the end.
func (r *reader) next() api.Token {
	if len(r.rest) == 0 {
		return api.Token{}
	}
	return r.rest[0]
}

// word goes past the next token, which must be there, and tells its text.
func (r *reader) word() string {
	text := r.rest[0].Text
	r.rest = r.rest[1:]
	return text
}

func (r *reader) at(kind int, text string) bool {
	t := r.next()
	return t.Kind == kind && t.Text == text
}

// take goes past the next token, if it is this one.
func (r *reader) take(kind int, text string) bool {
	ok := r.at(kind, text)
	if ok {
		r.word()
	}
	return ok
}
