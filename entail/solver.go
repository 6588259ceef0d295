package entail

import (
	"cmp"
	"slices"

	"savant/api"
	"savant/coerce"
	"savant/sharing"
)

// pair is two types.
type pair struct{ l, r *sharing.Node }

// equation is two types that are the same: as a given says; or, if of is there, as the n-th arguments of two that are so by equations ahead of it.
type equation struct {
	pair
	given string
	of    *pair
	n     int
}

// solver finds the types for the variables of givens by which these hold. Types are held as nodes, so that it is not in the way how great they are with what is known.
type solver struct {
	pool   sharing.Pool
	places map[string]int                  // of the names that are in the order
	left   []*equation                     // equations that are to be worked off, the first one first
	stands map[*sharing.Node]*sharing.Node // what a variable stands for; and of other types that are the same which one stands for both
	joined map[*sharing.Node][]*equation   // the equations at each type by which something came to stand for something
	states map[*sharing.Node]int           // of types that are looked through
	norms  map[*sharing.Node]*sharing.Node
}

func newSolver(order []string) *solver {
	s := &solver{
		pool:   sharing.Pool{},
		places: map[string]int{},
		stands: map[*sharing.Node]*sharing.Node{},
		joined: map[*sharing.Node][]*equation{},
		states: map[*sharing.Node]int{},
		norms:  map[*sharing.Node]*sharing.Node{},
	}
	for _, name := range order {
		if _, again := s.places[name]; !again {
			s.places[name] = len(s.places)
		}
	}
	return s
}

// solve tells whether the givens do not contradict one another.
func (s *solver) solve(givens []coerce.Given) bool {
	for _, g := range givens {
		s.left = append(s.left, &equation{pair: pair{l: s.pool.Lay(g.L, nil), r: s.pool.Lay(g.R, nil)}, given: g.Name})
	}
	said := s.left
	for len(s.left) > 0 {
		q := s.left[0]
		s.left = s.left[1:]
		if !s.work(q) {
			return false
		}
	}
	// Both sides of each are one by now: one of them is enough.
	return !slices.ContainsFunc(said, func(q *equation) bool { return s.isEndless(q.l) })
}

// work works an equation off, and tells whether the two types can be the same at all.
func (s *solver) work(q *equation) bool {
	l, r := s.head(q.l), s.head(q.r)
	if l == r {
		return true
	}
	s.joined[q.l] = append(s.joined[q.l], q)
	s.joined[q.r] = append(s.joined[q.r], q)
	switch {
	case s.givesWay(l, r):
		s.stands[l] = r
	case s.givesWay(r, l):
		s.stands[r] = l
	case !fits(l, r):
		return false
	default:
		s.stands[l] = r
		s.takeApart(pair{l: l, r: r})
	}
	return true
}

// head is what t is, as far as one must see to tell its kind: no variable, if t does not stay one.
func (s *solver) head(t *sharing.Node) *sharing.Node {
	for u, ok := s.stands[t]; ok; u, ok = s.stands[t] {
		// The way from t gets shorter each time it is gone.
		if further, ok := s.stands[u]; ok {
			s.stands[t] = further
		}
		t = u
	}
	return t
}

// givesWay tells whether t is a variable for which u is to stand, where both are the same.
func (s *solver) givesWay(t, u *sharing.Node) bool {
	return t.Kind == api.Var && (u.Kind != api.Var || s.isAhead(u.Name, t.Name))
}

func (s *solver) isAhead(a, b string) bool {
	return cmp.Or(cmp.Compare(s.place(a), s.place(b)), cmp.Compare(a, b)) < 0
}

// place is where a name stands in the order: behind all of it, if it is not there.
func (s *solver) place(name string) int {
	if n, ok := s.places[name]; ok {
		return n
	}
	return len(s.places)
}

// fits tells whether two types, that are no variables, are the same, if their arguments are.
func fits(t, u *sharing.Node) bool {
	return t.Kind == u.Kind && t.Name == u.Name && t.N == u.N && len(t.Args) == len(u.Args)
}

// takeApart leaves the arguments of two types, that are the same, to be worked off.
func (s *solver) takeApart(p pair) {
	for i, a := range p.l.Args {
		s.left = append(s.left, &equation{pair: pair{l: a, r: p.r.Args[i]}, of: &p, n: i})
	}
}

// States of types that are looked through.
const (
	isOpen = iota
	isDone
)

// isEndless tells whether t has a type in it, with what variables stand for, that has itself in it.
func (s *solver) isEndless(t *sharing.Node) bool {
	t = s.head(t)
	if state, met := s.states[t]; met {
		return state == isOpen
	}
	s.states[t] = isOpen
	endless := slices.ContainsFunc(t.Args, s.isEndless)
	s.states[t] = isDone
	return endless
}

// norm is t with all that its variables stand for.
func (s *solver) norm(t *sharing.Node) *sharing.Node {
	t = s.head(t)
	if u, ok := s.norms[t]; ok {
		return u
	}
	var args []*sharing.Node
	for _, a := range t.Args {
		args = append(args, s.norm(a))
	}
	u := s.pool.Node(t.Kind, t.Name, t.N, args...)
	s.norms[t] = u
	return u
}
