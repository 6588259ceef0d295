package solve

import (
	"savant/api"
	"savant/joining"
	"savant/sharing"
)

// view is how types are seen at the problems of a zone: with what is known, and by the givens there. (Names that for alls around bind are told from one another by how far away these are, on both sides of an equation alike: so they are the new constants.)
type view struct {
	*solver
	zone   *zone
	joiner *joining.Joiner
	states map[joining.Pair]int // of pairs that were worked on
}

// States of pairs that were worked on.
const (
	holds = iota
	doesNotHold
)

// viewAt is the view at a zone, and tells whether the givens there do not contradict one another. If they do, the view is not to be used.
func (s *solver) viewAt(z *zone) (v *view, ok bool) {
	v = &view{solver: s, zone: z, joiner: joining.New(s.order), states: map[joining.Pair]int{}}
	var said []*joining.Equation
	for ; z != nil; z = z.outer {
		said = append(said, z.usable...)
	}
	return v, v.joiner.Join(said)
}

// order is the place of a name among all: constants are ahead of those that are bound.
func (s *solver) order(name string) int {
	return s.binds[name].order
}

// head is what t is at the zone, as far as one must see to tell its kind.
func (v *view) head(t *sharing.Node) *sharing.Node {
	// What is known comes first: there are no unknowns in what givens say.
	return v.joiner.Head(v.told(t))
}

// holds works on an equation, and tells whether it holds then.
func (v *view) holds(p joining.Pair) bool {
	p = joining.Pair{L: v.head(p.L), R: v.head(p.R)}
	if p.L == p.R {
		return true
	}
	state, met := v.states[p]
	if !met {
		if !v.work(p) {
			state = doesNotHold
		}
		v.states[p] = state
	}
	return state == holds
}

// work works on a pair of types that are not the same yet.
func (v *view) work(p joining.Pair) bool {
	switch {
	case p.L.Kind == api.Meta && p.R.Kind == api.Meta && p.L.N < p.R.N:
		return v.learn(p.R, p.L) || v.learn(p.L, p.R)
	case p.L.Kind == api.Meta && p.R.Kind == api.Meta:
		return v.learn(p.L, p.R) || v.learn(p.R, p.L)
	case p.L.Kind == api.Meta:
		return v.learn(p.L, p.R)
	case p.R.Kind == api.Meta:
		return v.learn(p.R, p.L)
	case !p.L.Fits(p.R):
		return false
	}
	all := true
	for i, a := range p.L.Args {
		all = v.holds(joining.Pair{L: a, R: p.R.Args[i]}) && all
	}
	return all
}

// learn notes of an unknown that it is t, if it may be that, and tells whether it may.
func (v *view) learn(unknown, t *sharing.Node) bool {
	home := v.homes[unknown]
	if home.zone != v.zone {
		return false
	}
	may := true
	var deeper []*sharing.Node
	through(t, v.head, func(part *sharing.Node) {
		switch part.Kind {
		case api.Meta:
			may = may && part != unknown
			if v.homes[part].depth > home.depth {
				deeper = append(deeper, part)
			}
		case api.Var:
			may = may && v.depthOf(part.Name) <= home.depth
		case api.All, sharing.BoundName:
			may = false
		}
	})
	if !may {
		return false
	}
	for _, other := range deeper {
		v.homes[other] = home
	}
	v.known[unknown] = t
	return true
}

// depthOf is how many problems that one stands within which binds a name; 0, as of the outermost one, if none does.
func (v *view) depthOf(name string) int {
	if b, ok := v.binds[name]; ok {
		return b.at.depth
	}
	return 0
}

// through goes through t and all that is within it, where head tells what each part is, and hands over each part once.
func through(t *sharing.Node, head func(t *sharing.Node) *sharing.Node, do func(part *sharing.Node)) {
	met := map[*sharing.Node]struct{}{}
	for open := []*sharing.Node{t}; len(open) > 0; {
		last := len(open) - 1
		part := head(open[last])
		open = open[:last]
		if _, again := met[part]; again {
			continue
		}
		met[part] = struct{}{}
		do(part)
		open = append(open, part.Args...)
	}
}
