package coerce

import (
	"strconv"

	"savant/api"
	"savant/reading"
	"savant/types"
)

// Read reads a coercion that stands at the begin of tokens; rest is what stands behind it.
func Read(l []api.Token) (c Co, rest []api.Token, ok bool) {
	r := reader{reading.Tokens{Rest: l}}
	c, ok = r.whole()
	if !ok {
		return Co{}, nil, false
	}
	return c, r.Rest, true
}

// reader has methods that read one piece each, and tell whether it stood there.
type reader struct{ reading.Tokens }

func (r *reader) whole() (Co, bool) {
	switch {
	case r.Take(api.TokSign, "("):
		return r.ofForm()
	case r.At(api.TokSign, "<"):
		t, ok := r.inBrackets()
		return Co{Kind: api.CoRefl, T: t}, ok
	}
	name, ok := r.TakeAny(api.TokVar)
	return Co{Kind: api.CoVar, Name: name}, ok
}

// atWhole tells whether the next token is one that a coercion begins with.
func (r *reader) atWhole() bool {
	return r.At(api.TokSign, "(") || r.At(api.TokSign, "<") || r.Next().Kind == api.TokVar
}

func (r *reader) inBrackets() (types.Type, bool) {
	if !r.Take(api.TokSign, "<") {
		return types.Type{}, false
	}
	t, ok := reading.Piece(&r.Tokens, types.Read)
	return t, ok && r.Take(api.TokSign, ">")
}

// ofForm reads what stands behind `(`.
func (r *reader) ofForm() (Co, bool) {
	word, _ := r.TakeAny(api.TokCon)
	f, ok := formOf(func(f form) bool { return f.word == word })
	c := Co{Kind: f.kind}
	ok = ok && (f.name == 0 || r.name(f.name, &c)) && (!f.hasNumber || r.number(&c))
	ok = ok && r.kids(f.kids, &c) && (!f.hasType || r.typeIn(&c))
	return c, ok && r.Take(api.TokSign, ")")
}

func (r *reader) name(kind int, c *Co) (ok bool) {
	c.Name, ok = r.TakeAny(kind)
	return ok
}

func (r *reader) number(c *Co) bool {
	text, _ := r.TakeAny(api.TokNum)
	n, err := strconv.Atoi(text)
	c.N = n
	return err == nil
}

func (r *reader) kids(n int, c *Co) bool {
	for len(c.Kids) != n {
		if n == anyNumber && !r.atWhole() {
			return true
		}
		k, ok := r.whole()
		if !ok {
			return false
		}
		c.Kids = append(c.Kids, k)
	}
	return true
}

func (r *reader) typeIn(c *Co) (ok bool) {
	c.T, ok = r.inBrackets()
	return ok
}
