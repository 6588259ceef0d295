package solve

import (
	"cmp"
	"slices"

	"savant/api"
	"savant/joining"
	"savant/sharing"
	"savant/types"
	"savant/unify"
)

// zone is problems of which none is parted from the others by givens: the outermost one of them has some in its brackets, or stands within none. The givens at all of them are the same, and what an unknown whose home is one of them may be, it may be at each.
type zone struct {
	outer    *zone
	givens   []joining.Equation  // in its brackets
	usable   []*joining.Equation // those of them that are so, filled
	wants    []joining.Pair
	unknowns []*sharing.Node // those that are in New there
}

// home is where an unknown's type belongs: at a problem of a zone that stands within so many others.
type home struct {
	zone  *zone
	depth int
}

// solver works on wanted equations. Types are held as nodes, so that it is not in the way how great they are with what is known.
type solver struct {
	pool  sharing.Pool
	binds map[string]binding
	zones []*zone // each one behind those that it stands within
	homes map[*sharing.Node]home
	known map[*sharing.Node]*sharing.Node // what an unknown is
}

func newSolver(o *outline) *solver {
	s := &solver{pool: sharing.Pool{}, binds: o.binds, homes: map[*sharing.Node]home{}, known: map[*sharing.Node]*sharing.Node{}}
	zones := map[*place]*zone{}
	for _, p := range o.places {
		zones[p] = s.lay(p, zones[p.outer])
	}
	return s
}

// lay lays out what a problem has, and answers its zone; outer is that of the problem that it stands within.
func (s *solver) lay(p *place, outer *zone) *zone {
	z := outer
	if outer == nil || len(p.Givens) > 0 {
		z = &zone{outer: outer}
		s.zones = append(s.zones, z)
	}
	for _, g := range p.Givens {
		z.givens = append(z.givens, joining.Equation{Pair: s.pair(g.L, g.R), Given: g.Name})
	}
	for _, w := range p.P.Wants {
		z.wants = append(z.wants, s.pair(w.L, w.R))
	}
	for _, n := range p.P.New {
		unknown := s.unknown(n)
		z.unknowns = append(z.unknowns, unknown)
		s.homes[unknown] = home{zone: z, depth: p.depth}
	}
	return z
}

func (s *solver) pair(l, r types.Type) joining.Pair {
	return joining.Pair{L: s.pool.Lay(l, nil), R: s.pool.Lay(r, nil)}
}

func (s *solver) unknown(n int) *sharing.Node {
	return s.pool.Node(api.Meta, "", n)
}

// solve works on all equations that are wanted, and tells what is wrong then.
//
// Each is worked on but once. What is known of a zone's unknowns comes of its own equations alone, for givens part them from those further within; and in its givens stand unknowns of outer zones alone. So nothing that matters to an equation comes to be known behind it but by others of its zone; and what keeps it from holding there stays so, whatever they tell: unlike constructors, or a type that an unknown may not be.
func (s *solver) solve() api.Errno {
	isStuck, isContra := false, false
	for _, z := range s.zones {
		z.usable = s.usable(z.givens)
		v, ok := s.viewAt(z)
		isContra = isContra || !ok
		for _, w := range z.wants {
			isStuck = ok && !v.holds(w) || isStuck
		}
	}
	switch {
	case isStuck:
		return api.ErrStuck
	case isContra:
		return api.ErrContra
	}
	return api.OK
}

// usable are the usable ones of givens, filled.
func (s *solver) usable(givens []joining.Equation) []*joining.Equation {
	var l []*joining.Equation
	f := s.pool.Filler(s.told)
	for _, g := range givens {
		if !s.hasUnknown(g.L) && !s.hasUnknown(g.R) {
			g.L, g.R = f.Filled(g.L), f.Filled(g.R)
			l = append(l, &g)
		}
	}
	return l
}

// told is what t is with what is known, as far as one must see to tell its kind.
func (s *solver) told(t *sharing.Node) *sharing.Node {
	return sharing.End(s.known, t)
}

func (s *solver) hasUnknown(t *sharing.Node) bool {
	has := false
	through(t, s.told, func(part *sharing.Node) {
		has = has || part.Kind == api.Meta
	})
	return has
}

// answer is what is known of unknowns, by rising ones.
func (s *solver) answer() []unify.Known {
	least := s.least()
	writer := s.pool.Writer()
	var l []unify.Known
	for _, z := range s.zones {
		f := s.fillerAt(z, least)
		for _, unknown := range z.unknowns {
			if t := f.Filled(unknown); t != unknown {
				l = append(l, unify.Known{Meta: unknown.N, T: writer.Type(t, 0)})
			}
		}
	}
	slices.SortFunc(l, func(a, b unify.Known) int { return cmp.Compare(a.Meta, b.Meta) })
	return l
}

// least are the least numbers of unknowns that are one another, of which no type is known: by the one that stands for all of them.
func (s *solver) least() map[*sharing.Node]int {
	least := map[*sharing.Node]int{}
	for unknown := range s.homes {
		t := s.told(unknown)
		if n, met := least[t]; !met || unknown.N < n {
			least[t] = unknown.N
		}
	}
	return least
}

// fillerAt fills types as they are told at a zone.
func (s *solver) fillerAt(z *zone, least map[*sharing.Node]int) *sharing.Filler {
	v, _ := s.viewAt(z)
	return s.pool.Filler(func(t *sharing.Node) *sharing.Node {
		t = v.head(t)
		if t.Kind == api.Meta {
			return s.unknown(least[t])
		}
		return t
	})
}
