// Package lex is layer 1: it cuts a text into words, numbers and signs (see shared/doc/01-lex.md).
package lex

import (
	"strings"

	"savant/api"
)

// none is the kind of what is no token.
const none = 0

// shortSigns are the signs of one byte.
const shortSigns = `\:=;{}().~@<>,[]!`

// Scan cuts a text into tokens. What is no token is told by ErrLex and the place where one would have to begin.
func Scan(s string) (l []api.Token, at int, e api.Errno) {
	if len(s) > api.MaxInput {
		return nil, 0, api.ErrLong
	}
	next := reader(s)
	for t := next(); t.At < len(s); t = next() {
		if t.Kind == none {
			return nil, t.At, api.ErrLex
		}
		l = append(l, t)
	}
	return l, 0, api.OK
}

// reader makes the closure that tells the next token of s each time it is called: one of the kind none at the end of s, and where no token begins.
func reader(s string) func() api.Token {
	at := 0
	return func() api.Token {
		begin := at + between(s[at:])
		kind, size := first(s[begin:])
		at = begin + size
		return api.Token{Kind: kind, Text: s[begin:at], At: begin}
	}
}

// between is how many bytes at the begin of s belong to no token because they stand ahead of one: blanks, and remarks up to a line's end.
func between(s string) int {
	for i := 0; i < len(s); i++ {
		switch s[i] {
		case ' ', '\t', '\n':
		case '#':
			size := strings.IndexByte(s[i:], '\n')
			if size < 0 {
				return len(s)
			}
			i += size
		default:
			return i
		}
	}
	return len(s)
}

// first is the kind of the token at the begin of s, and how many bytes it has: none and 0, if no token begins there.
func first(s string) (kind, size int) {
	switch {
	case s == "":
		return none, 0
	case isLetter(s[0]):
		return word(s)
	case isDigit(s[0]):
		return number(s)
	case s[0] == '?':
		return meta(s)
	}
	return sign(s)
}

func word(s string) (kind, size int) {
	size = span(s, inWord)
	if size > api.MaxWord {
		return none, 0
	}
	return wordKind(s[:size]), size
}

func wordKind(w string) int {
	switch w {
	case "data", "let", "in", "case", "of", "forall":
		return api.TokKey
	}
	if isUpper(w[0]) {
		return api.TokCon
	}
	return api.TokVar
}

func number(s string) (kind, size int) {
	size = span(s, isDigit)
	if size == 0 || size > api.MaxDigits || size > 1 && s[0] == '0' {
		return none, 0
	}
	return api.TokNum, size
}

// meta expects s to begin with `?`.
func meta(s string) (kind, size int) {
	_, size = number(s[1:])
	if size == 0 {
		return none, 0
	}
	return api.TokMeta, 1 + size
}

// sign expects s not to be empty. It tries the signs of two bytes first: a token is as long as it can be.
func sign(s string) (kind, size int) {
	if strings.HasPrefix(s, "->") || strings.HasPrefix(s, "|>") {
		return api.TokSign, 2
	}
	if strings.IndexByte(shortSigns, s[0]) >= 0 {
		return api.TokSign, 1
	}
	return none, 0
}

// span is how many bytes at the begin of s are of one sort.
func span(s string, isOne func(c byte) bool) int {
	n := 0
	for n < len(s) && isOne(s[n]) {
		n++
	}
	return n
}

func inWord(c byte) bool { return isLetter(c) || isDigit(c) || c == '_' }

func isLetter(c byte) bool { return isUpper(c) || 'a' <= c && c <= 'z' }

func isUpper(c byte) bool { return 'A' <= c && c <= 'Z' }

func isDigit(c byte) bool { return '0' <= c && c <= '9' }
