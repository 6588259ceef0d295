// Package reading is what layers share that read texts: a text's tokens, from the first one on.
package reading

import (
	"savant/api"
	"savant/lex"
)

// Whole reads a text whose tokens are all one thing. If they are not, the error is unlike.
func Whole[T any](s string, read func(l []api.Token) (t T, rest []api.Token, ok bool), unlike api.Errno) (T, api.Errno) {
	var none T
	l, _, e := lex.Scan(s)
	if e != api.OK {
		return none, e
	}
	t, rest, ok := read(l)
	if !ok || len(rest) > 0 {
		return none, unlike
	}
	return t, api.OK
}

// Tokens are those that are still to be read.
type Tokens struct{ Rest []api.Token }

// Piece reads what read finds at the begin of the tokens, and goes past it.
func Piece[T any](r *Tokens, read func(l []api.Token) (t T, rest []api.Token, ok bool)) (t T, ok bool) {
	t, r.Rest, ok = read(r.Rest)
	return t, ok
}

// Next is the next token: one of no kind at the end.
func (r *Tokens) Next() api.Token {
	if len(r.Rest) == 0 {
		return api.Token{}
	}
	return r.Rest[0]
}

// At tells whether the next token is this one.
func (r *Tokens) At(kind int, text string) bool {
	t := r.Next()
	return t.Kind == kind && t.Text == text
}

// Take goes past the next token, if it is this one.
func (r *Tokens) Take(kind int, text string) (ok bool) {
	ok = r.At(kind, text)
	if ok {
		r.Rest = r.Rest[1:]
	}
	return ok
}

// TakeAny goes past the next token, if it is of this kind, and tells its text.
func (r *Tokens) TakeAny(kind int) (text string, ok bool) {
	t := r.Next()
	if t.Kind != kind {
		return "", false
	}
	return t.Text, r.Take(kind, t.Text)
}

// Sign goes past the next token, if it is this sign.
func (r *Tokens) Sign(text string) bool { return r.Take(api.TokSign, text) }

// Word goes past the next token, if it is this key word.
func (r *Tokens) Word(text string) bool { return r.Take(api.TokKey, text) }

// AtVariable tells whether the next token is a variable.
func (r *Tokens) AtVariable() bool { return r.Next().Kind == api.TokVar }

// Variable goes past the next token, if it is a variable, and tells its name.
func (r *Tokens) Variable() (name string, ok bool) { return r.TakeAny(api.TokVar) }

// Variables reads as many as there are; there may be none.
func (r *Tokens) Variables() ([]string, bool) {
	return Longer(nil, r.AtVariable, r.Variable)
}
