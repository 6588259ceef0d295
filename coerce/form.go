package coerce

import "savant/api"

// form is how coercions of a kind are written in parentheses: a word; then what they have, in the order of these fields.
type form struct {
	kind      int
	word      string
	name      int // its token's kind; 0, if there is no name
	hasNumber bool
	kids      int
	hasType   bool
}

// anyNumber is how many kids a form has that may have any number of them.
const anyNumber = -1

var forms = [...]form{
	{kind: api.CoSym, word: "Sym", kids: 1},
	{kind: api.CoTrans, word: "Trans", kids: 2},
	{kind: api.CoCon, word: "Con", name: api.TokCon, kids: anyNumber},
	{kind: api.CoFun, word: "Fun", kids: 2},
	{kind: api.CoAll, word: "All", name: api.TokVar, kids: 1},
	{kind: api.CoNth, word: "Nth", hasNumber: true, kids: 1},
	{kind: api.CoInst, word: "Inst", kids: 1, hasType: true},
}

// formOf is the one that isIt tells of.
func formOf(isIt func(f form) bool) (f form, ok bool) {
	for _, f := range forms {
		if isIt(f) {
			return f, true
		}
	}
	return form{}, false
}
