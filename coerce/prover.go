package coerce

import (
	"savant/api"
	"savant/naming"
	"savant/sharing"
	"savant/types"
)

// sides are what a coercion says: that l is r. Types that coercions make of short texts may be too great to be written.
type sides struct{ l, r *sharing.Node }

// prover goes by the chapter's rules.
type prover struct {
	pool   sharing.Pool
	givens map[string]Given
	laid   map[string]sides // what givens say, of those that were asked for
	news   map[string]int   // the new names in the places of those of the CoAlls around
	made   int              // how many new names there were
}

func newProver(givens []Given) *prover {
	p := &prover{pool: sharing.Pool{}, givens: map[string]Given{}, laid: map[string]sides{}, news: map[string]int{}}
	for _, g := range givens {
		p.givens[g.Name] = g
	}
	return p
}

func (p *prover) says(c Co) sides {
	must(c.hasItsKids())
	switch c.Kind {
	case api.CoVar:
		return p.given(c.Name)
	case api.CoRefl:
		t := p.lay(c.T, p.news)
		return sides{l: t, r: t}
	case api.CoAll:
		return p.forAll(c)
	case api.CoInst:
		return p.instance(c)
	}
	var kids []sides
	for _, k := range c.Kids {
		kids = append(kids, p.says(k))
	}
	return p.byKids(c, kids)
}

// byKids tells what c says by what its kids say.
func (p *prover) byKids(c Co, kids []sides) sides {
	switch c.Kind {
	case api.CoSym:
		return sides{l: kids[0].r, r: kids[0].l}
	case api.CoTrans:
		must(kids[0].r == kids[1].l)
		return sides{l: kids[0].l, r: kids[1].r}
	case api.CoNth:
		return nth(c.N, kids[0])
	case api.CoFun:
		return p.ofArgs(api.Fun, "", kids)
	}
	return p.ofArgs(api.Con, c.Name, kids)
}

// lay is t's node, with new names in the places of these.
func (p *prover) lay(t types.Type, news map[string]int) *sharing.Node {
	must(isType(t))
	return p.pool.Lay(t, news)
}

// given tells what a given says. Its types' names are not those of the CoAlls around.
func (p *prover) given(name string) sides {
	if s, ok := p.laid[name]; ok {
		return s
	}
	g, ok := p.givens[name]
	must(ok)
	s := sides{l: p.lay(g.L, nil), r: p.lay(g.R, nil)}
	p.laid[name] = s
	return s
}

// forAll takes CoAlls that stand right within one another together: what is within them all is gone through once.
func (p *prover) forAll(c Co) sides {
	first := p.made + 1
	for ; c.Kind == api.CoAll; c = c.Kids[0] {
		must(c.hasItsKids())
		p.made++
		defer naming.Cover(p.news, c.Name, p.made)()
	}
	last := p.made
	s := p.says(c)
	return sides{l: p.pool.ForAll(first, last, s.l), r: p.pool.ForAll(first, last, s.r)}
}

// instance takes CoInsts that stand right within one another together, likewise, as far as there are for alls.
func (p *prover) instance(c Co) sides {
	var us []*sharing.Node
	for ; c.Kind == api.CoInst; c = c.Kids[0] {
		must(c.hasItsKids())
		us = append(us, p.lay(c.T, p.news))
	}
	s := p.says(c)
	for len(us) > 0 {
		rest := max(0, len(us)-forAlls(s))
		must(rest < len(us))
		s = sides{l: p.pool.Instance(s.l, us[rest:]), r: p.pool.Instance(s.r, us[rest:])}
		us = us[:rest]
	}
	return s
}

// forAlls is how many for alls both sides begin with.
func forAlls(s sides) int {
	n := 0
	for l, r := s.l, s.r; l.Kind == api.All && r.Kind == api.All; l, r = l.Args[0], r.Args[0] {
		n++
	}
	return n
}

// ofArgs tells of types that have arguments what these say.
func (p *prover) ofArgs(kind int, name string, args []sides) sides {
	var l, r []*sharing.Node
	for _, a := range args {
		l, r = append(l, a.l), append(r, a.r)
	}
	return sides{l: p.pool.Node(kind, name, 0, l...), r: p.pool.Node(kind, name, 0, r...)}
}

func nth(n int, s sides) sides {
	must(s.l.Kind == s.r.Kind && s.l.Name == s.r.Name && len(s.l.Args) == len(s.r.Args))
	must(s.l.Kind == api.Con || s.l.Kind == api.Fun)
	must(0 <= n && n < len(s.l.Args))
	return sides{l: s.l.Args[n], r: s.r.Args[n]}
}
