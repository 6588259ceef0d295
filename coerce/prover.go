package coerce

import (
	"savant/proving"
	"savant/sharing"
	"savant/types"
)

// prover goes by the chapter's rules.
type prover struct {
	proving.Prover[Co]
	givens map[string]Given
	laid   map[string]proving.Sides // what givens say, of those that were asked for
}

func newProver(givens []Given) *prover {
	p := &prover{givens: map[string]Given{}, laid: map[string]proving.Sides{}}
	p.Prover = proving.Prover[Co]{
		Scope:     sharing.Pool{}.Scope(),
		Parts:     func(c Co) proving.Parts[Co] { return proving.Parts[Co](c) },
		Must:      must,
		Given:     p.given,
		TypeOf:    func(t types.Type) *sharing.Node { return lay(p.Scope, t) },
		MustBeCon: func(string, int) {},
	}
	for _, g := range givens {
		p.givens[g.Name] = g
	}
	return p
}

// given tells what a given says. Its types' names are not those of the CoAlls around.
func (p *prover) given(name string) proving.Sides {
	if s, ok := p.laid[name]; ok {
		return s
	}
	g, ok := p.givens[name]
	must(ok)
	outside := p.Pool.Scope()
	s := proving.Sides{L: lay(outside, g.L), R: lay(outside, g.R)}
	p.laid[name] = s
	return s
}

func lay(s *sharing.Scope, t types.Type) *sharing.Node {
	n, ok := s.Type(t)
	must(ok)
	return n
}
