package coerce

import (
	"savant/api"
	"savant/types"
)

// saysNothing is thrown where a coercion says nothing by the rules.
type saysNothing struct{}

// must throws, if what a rule asks is not so.
func must(ok bool) {
	if !ok {
		panic(saysNothing{})
	}
}

// Says tells what a coercion says by the rules: that l is r.
func Says(givens []Given, c Co) (l, r types.Type, e api.Errno) {
	defer func() {
		switch thrown := recover().(type) {
		case nil:
		case saysNothing:
			e = api.ErrCo
		default:
			panic(thrown)
		}
	}()
	p := newProver(givens)
	s := p.Says(c)
	w := p.Writer()
	return w.Type(s.L, 0), w.Type(s.R, 0), api.OK
}
