package solve

import (
	"savant/api"
	"savant/types"
)

// place is a problem, and where it stands.
type place struct {
	Inner
	outer       *place
	depth       int // how many problems it stands within
	first, last int // its number, and the last one's of those within it, as they are written
}

func (p *place) isWithin(q *place) bool {
	return q.first <= p.first && p.first <= q.last
}

// binding is a name that a problem binds.
type binding struct {
	at    *place
	order int // from 1 on, the outermost problem's first
}

// outline is a problem and all that stands within it, as a list, and what their brackets and New have.
type outline struct {
	places []*place
	binds  map[string]binding
	homes  map[int]*place
	givens map[string]int // how many have a name
	again  bool           // whether a name, an unknown or a given is there twice
}

func outlineOf(p Problem) *outline {
	o := &outline{binds: map[string]binding{}, homes: map[int]*place{}, givens: map[string]int{}}
	o.lay(&place{Inner: Inner{P: p}})
	return o
}

func (o *outline) lay(p *place) {
	p.first = len(o.places)
	o.places = append(o.places, p)
	for _, name := range p.Names {
		once(o, o.binds, name, binding{at: p, order: len(o.binds) + 1})
	}
	for _, g := range p.Givens {
		once(o, o.givens, g.Name, 1)
	}
	for _, n := range p.P.New {
		once(o, o.homes, n, p)
	}
	for _, in := range p.P.Inner {
		o.lay(&place{Inner: in, outer: p, depth: p.depth + 1})
	}
	p.last = len(o.places) - 1
}

// once lays v into a map of the outline, which notes if something is there already.
func once[K comparable, V any](o *outline, m map[K]V, key K, v V) {
	_, again := m[key]
	o.again = o.again || again
	m[key] = v
}

// wrong is what is wrong with the problem, before it is worked on.
func (o *outline) wrong() api.Errno {
	astray, poly := false, false
	o.types(func(t types.Type, names, unknowns *place) {
		astray = astray || o.isAstray(t, names, unknowns)
		poly = poly || unknowns != names && t.Poly()
	})
	switch {
	case o.again || astray:
		return api.ErrScope
	case poly:
		return api.ErrPoly
	}
	return api.OK
}

// types hands over each type, and the innermost problem whose names, and the innermost one whose unknowns, may stand in it: of a given's these are two.
func (o *outline) types(do func(t types.Type, names, unknowns *place)) {
	for _, p := range o.places {
		for _, g := range p.Givens {
			do(g.L, p, p.outer)
			do(g.R, p, p.outer)
		}
		for _, w := range p.P.Wants {
			do(w.L, p, p)
			do(w.R, p, p)
		}
	}
}

// isAstray tells whether a name, or an unknown, stands in t that must not.
func (o *outline) isAstray(t types.Type, names, unknowns *place) bool {
	for _, name := range t.Free() {
		if b, ok := o.binds[name]; ok && !names.isWithin(b.at) {
			return true
		}
	}
	for _, n := range t.Metas() {
		if home, ok := o.homes[n]; !ok || !unknowns.isWithin(home) {
			return true
		}
	}
	return false
}
