// Package joining is what layers share that ask what follows of equations: types that are equal by them are joined, and what variables stand for is found.
package joining

import (
	"cmp"
	"slices"

	"savant/api"
	"savant/sharing"
)

// Pair is two types.
type Pair struct{ L, R *sharing.Node }

// Equation is two types that are equal: as a given says; or, if Of is there, as the N-th arguments of two that are so by equations ahead of it.
type Equation struct {
	Pair
	Given string
	Of    *Pair
	N     int
}

// Joiner finds the types for the variables of equations by which these hold. Types are held as nodes, so that it is not in the way how great they are with what is known.
type Joiner struct {
	place  func(name string) int
	left   []*Equation                     // equations that are to be worked off, the first one first
	stands map[*sharing.Node]*sharing.Node // what a variable stands for; and of other types that are the same which one stands for both
	joined map[*sharing.Node][]*Equation   // the equations at each type by which something came to stand for something
	states map[*sharing.Node]int           // of types that are looked through
}

// New is a joiner in which of variables that are equal the one of the least place stands for all; of those of one place the first one by bytes.
func New(place func(name string) int) *Joiner {
	return &Joiner{
		place:  place,
		stands: map[*sharing.Node]*sharing.Node{},
		joined: map[*sharing.Node][]*Equation{},
		states: map[*sharing.Node]int{},
	}
}

// Join works equations off, without for alls, and tells whether they do not contradict one another. If they do, nothing else is to be asked.
func (j *Joiner) Join(said []*Equation) bool {
	j.left = slices.Clone(said)
	for len(j.left) > 0 {
		q := j.left[0]
		j.left = j.left[1:]
		if !j.work(q) {
			return false
		}
	}
	// Both sides of each are one by now: one of them is enough.
	return !slices.ContainsFunc(said, func(q *Equation) bool { return j.isEndless(q.L) })
}

// work works an equation off, and tells whether the two types can be the same at all.
func (j *Joiner) work(q *Equation) bool {
	l, r := j.Head(q.L), j.Head(q.R)
	if l == r {
		return true
	}
	j.joined[q.L] = append(j.joined[q.L], q)
	j.joined[q.R] = append(j.joined[q.R], q)
	switch {
	case j.givesWay(l, r):
		j.stands[l] = r
	case j.givesWay(r, l):
		j.stands[r] = l
	case !l.Fits(r):
		return false
	default:
		j.stands[l] = r
		j.takeApart(Pair{L: l, R: r})
	}
	return true
}

// Head is what t is, as far as one must see to tell its kind: no variable, if t does not stay one.
func (j *Joiner) Head(t *sharing.Node) *sharing.Node {
	return sharing.End(j.stands, t)
}

// Joined are the equations, of which t is a side, by which something came to stand for something.
func (j *Joiner) Joined(t *sharing.Node) []*Equation {
	return j.joined[t]
}

// givesWay tells whether t is a variable for which u is to stand, where both are the same.
func (j *Joiner) givesWay(t, u *sharing.Node) bool {
	return t.Kind == api.Var && (u.Kind != api.Var || j.isAhead(u.Name, t.Name))
}

func (j *Joiner) isAhead(a, b string) bool {
	return cmp.Or(cmp.Compare(j.place(a), j.place(b)), cmp.Compare(a, b)) < 0
}

// takeApart leaves the arguments of two types, that are the same, to be worked off.
func (j *Joiner) takeApart(p Pair) {
	for i, a := range p.L.Args {
		j.left = append(j.left, &Equation{Pair: Pair{L: a, R: p.R.Args[i]}, Of: &p, N: i})
	}
}

// States of types that are looked through.
const (
	isOpen = iota
	isDone
)

// isEndless tells whether t has a type in it, with what variables stand for, that has itself in it.
func (j *Joiner) isEndless(t *sharing.Node) bool {
	t = j.Head(t)
	if state, met := j.states[t]; met {
		return state == isOpen
	}
	j.states[t] = isOpen
	endless := slices.ContainsFunc(t.Args, j.isEndless)
	j.states[t] = isDone
	return endless
}
