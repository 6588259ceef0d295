package lex_test

import (
	"regexp"

	"savant/api"
)

// The reference is the chapter's table as patterns: what a token is cut as, and then whether what was cut may be one.
var (
	gap    = regexp.MustCompile(`^(?:[ \t\n]|#[^\n]*)*`)
	pieces = regexp.MustCompile(`^(?:[A-Za-z][A-Za-z0-9_]*|[0-9]+|\?[0-9]*|->|\|>|[\\:=;{}().~@<>,[\]!])`)
	kinds  = []struct {
		kind  int
		whole *regexp.Regexp
	}{
		{api.TokKey, regexp.MustCompile(`^(?:data|let|in|case|of|forall)$`)},
		{api.TokVar, regexp.MustCompile(`^[a-z][A-Za-z0-9_]{0,15}$`)},
		{api.TokCon, regexp.MustCompile(`^[A-Z][A-Za-z0-9_]{0,15}$`)},
		{api.TokNum, regexp.MustCompile(`^(?:0|[1-9][0-9]{0,5})$`)},
		{api.TokMeta, regexp.MustCompile(`^\?(?:0|[1-9][0-9]{0,5})$`)},
		{api.TokSign, regexp.MustCompile(`^[^A-Za-z0-9_?]+$`)},
	}
)

func reference(s string) (l []api.Token, at int, e api.Errno) {
	if len(s) > api.MaxInput {
		return nil, 0, api.ErrLong
	}
	at = len(gap.FindString(s))
	for at < len(s) {
		text := pieces.FindString(s[at:])
		kind := kindOf(text)
		if kind == 0 {
			return nil, at, api.ErrLex
		}
		l = append(l, api.Token{Kind: kind, Text: text, At: at})
		at += len(text)
		at += len(gap.FindString(s[at:]))
	}
	return l, 0, api.OK
}

func kindOf(text string) int {
	for _, k := range kinds {
		if k.whole.MatchString(text) {
			return k.kind
		}
	}
	return 0
}
