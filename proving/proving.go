// Package proving is what layers share that go by the rules of coercions: what each says is told by what those within it say.
package proving

import (
	"savant/api"
	"savant/sharing"
	"savant/types"
)

// Sides are what a coercion says: that L is R. Types that coercions make of short texts may be too great to be written.
type Sides struct{ L, R *sharing.Node }

// Parts are what a coercion has.
type Parts[C any] struct {
	Kind int
	Name string
	N    int
	T    types.Type
	Kids []C
}

// Prover goes by the rules. What hangs on where a coercion stands is told, or asked, by functions.
type Prover[C any] struct {
	*sharing.Scope
	Parts func(c C) Parts[C]
	// Must ends all, if what a rule asks is not so.
	Must func(ok bool)
	// Given is what the given of that name says.
	Given func(name string) Sides
	// TypeOf is the node of a type that stands in a coercion.
	TypeOf func(t types.Type) *sharing.Node
	// MustBeCon asks whether a constructor may be applied to so many.
	MustBeCon func(name string, args int)
}

// Says is what a coercion says.
func (p *Prover[C]) Says(c C) Sides {
	return p.says(p.parts(c))
}

func (p *Prover[C]) parts(c C) Parts[C] {
	x := p.Parts(c)
	p.Must(x.hasItsKids())
	return x
}

func (p *Prover[C]) says(x Parts[C]) Sides {
	switch x.Kind {
	case api.CoVar:
		return p.Given(x.Name)
	case api.CoRefl:
		t := p.TypeOf(x.T)
		return Sides{L: t, R: t}
	case api.CoAll:
		return p.forAll(x)
	case api.CoInst:
		return p.instance(x)
	}
	var kids []Sides
	for _, k := range x.Kids {
		kids = append(kids, p.Says(k))
	}
	return p.byKids(x, kids)
}

// hasItsKids tells whether x has as many kids as a coercion of its kind. Of others no rule speaks.
func (x Parts[C]) hasItsKids() bool {
	switch x.Kind {
	case api.CoVar, api.CoRefl, api.CoCon:
		return true
	case api.CoTrans, api.CoFun:
		return len(x.Kids) == 2
	case api.CoSym, api.CoAll, api.CoNth, api.CoInst:
		return len(x.Kids) == 1
	}
	return false
}

// byKids tells what x says by what its kids say.
func (p *Prover[C]) byKids(x Parts[C], kids []Sides) Sides {
	switch x.Kind {
	case api.CoSym:
		return Sides{L: kids[0].R, R: kids[0].L}
	case api.CoTrans:
		p.Must(kids[0].R == kids[1].L)
		return Sides{L: kids[0].L, R: kids[1].R}
	case api.CoNth:
		return p.nth(x.N, kids[0])
	case api.CoFun:
		return p.ofArgs(api.Fun, "", kids)
	}
	p.MustBeCon(x.Name, len(kids))
	return p.ofArgs(api.Con, x.Name, kids)
}

// forAll takes CoAlls that stand right within one another together: what is within them all is gone through once.
func (p *Prover[C]) forAll(x Parts[C]) Sides {
	var names []string
	for ; x.Kind == api.CoAll; x = p.parts(x.Kids[0]) {
		names = append(names, x.Name)
	}
	l := p.ForNames(names, func() []*sharing.Node {
		s := p.says(x)
		return []*sharing.Node{s.L, s.R}
	})
	return Sides{L: l[0], R: l[1]}
}

// instance takes CoInsts that stand right within one another together, likewise.
func (p *Prover[C]) instance(x Parts[C]) Sides {
	var us []*sharing.Node
	for ; x.Kind == api.CoInst; x = p.parts(x.Kids[0]) {
		us = append(us, p.TypeOf(x.T))
	}
	s := p.says(x)
	l, ok := p.Instances([]*sharing.Node{s.L, s.R}, us)
	p.Must(ok)
	return Sides{L: l[0], R: l[1]}
}

// ofArgs tells of types that have arguments what these say.
func (p *Prover[C]) ofArgs(kind int, name string, args []Sides) Sides {
	var l, r []*sharing.Node
	for _, a := range args {
		l, r = append(l, a.L), append(r, a.R)
	}
	return Sides{L: p.Node(kind, name, 0, l...), R: p.Node(kind, name, 0, r...)}
}

func (p *Prover[C]) nth(n int, s Sides) Sides {
	l, r := s.L, s.R
	p.Must(l.Kind == r.Kind && l.Name == r.Name && len(l.Args) == len(r.Args))
	p.Must(l.Kind == api.Con || l.Kind == api.Fun)
	p.Must(0 <= n && n < len(l.Args))
	return Sides{L: l.Args[n], R: r.Args[n]}
}
