package unify

import (
	"cmp"
	"slices"

	"savant/api"
	"savant/types"
)

// equation is two parts that are to be the same, or, if it is done, that are so by now.
type equation struct {
	l, r   *part
	isDone bool
}

// solver has the equations that are left, and what came of those that are worked off.
type solver struct {
	left      stack[equation]
	variables map[string]*part // by their names
	unknowns  map[int]*part    // by their numbers
	known     map[*part]*part  // what an unknown is; and of two other parts that are the same which one stands for both
	searches  int
}

func newSolver() *solver {
	return &solver{variables: map[string]*part{}, unknowns: map[int]*part{}, known: map[*part]*part{}}
}

// head is what p is, with what is known, as far as one must see to tell its kind.
func (s *solver) head(p *part) *part {
	for q, ok := s.known[p]; ok; q, ok = s.known[p] {
		// The way from p gets shorter each time it is gone.
		if further, ok := s.known[q]; ok {
			s.known[p] = further
		}
		p = q
	}
	return p
}

// work works an equation off.
func (s *solver) work(q equation) api.Errno {
	l, r := s.head(q.l), s.head(q.r)
	switch {
	case l == r:
		return api.OK
	case q.isDone:
		// Parts that stand in many places are so gone through but once.
		s.known[l] = r
		return api.OK
	case l.t.Kind == api.Meta || r.t.Kind == api.Meta:
		return s.learn(l, r)
	case !l.fits(r):
		return api.ErrClash
	case l.t.Kind == api.All:
		s.known[l.constant] = r.constant
	}
	s.left.lay(pairs(l, r)...)
	return api.OK
}

// pairs are the equations of two parts' arguments, and behind them the one of the parts, that is done then.
func pairs(l, r *part) []equation {
	var qs []equation
	for i, a := range l.args {
		qs = append(qs, equation{l: a, r: r.args[i]})
	}
	return append(qs, equation{l: l, r: r, isDone: true})
}

// learn notes of two parts, one of which is an unknown, that it is the other one.
func (s *solver) learn(unknown, p *part) api.Errno {
	if unknown.t.Kind != api.Meta || p.t.Kind == api.Meta && p.t.N > unknown.t.N {
		unknown, p = p, unknown
	}
	e := s.against(unknown, p)
	if e == api.OK {
		s.known[unknown] = p
	}
	return e
}

// against tells what there is against an unknown being p.
func (s *solver) against(unknown, p *part) api.Errno {
	var hasUnknown, hasForAll, hasNew bool
	s.through(p, func(q *part) {
		hasUnknown = hasUnknown || q == unknown
		hasForAll = hasForAll || q.t.Kind == api.All
		hasNew = hasNew || q.isNew
	})
	switch {
	case hasUnknown:
		return api.ErrOccurs
	case hasForAll:
		return api.ErrPoly
	case hasNew:
		return api.ErrEscape
	}
	return api.OK
}

// through goes through p and all that is within it, with what is known, and hands over each part once.
func (s *solver) through(p *part, do func(q *part)) {
	s.searches++
	var open stack[*part]
	open.lay(p)
	for q := range open.taken {
		q = s.head(q)
		if q.search == s.searches {
			continue
		}
		q.search = s.searches
		do(q)
		open.lay(q.args...)
	}
}

// answer is what is known of unknowns, each type filled, by rising unknowns.
func (s *solver) answer() []Known {
	var l []Known
	for n, p := range s.unknowns {
		if q := s.head(p); q != p {
			l = append(l, Known{Meta: n, T: s.filled(q)})
		}
	}
	slices.SortFunc(l, func(a, b Known) int { return cmp.Compare(a.Meta, b.Meta) })
	return l
}

// filled is p's type, with what is known in it. A part is filled once, and when all within it are.
func (s *solver) filled(p *part) types.Type {
	var open stack[*part]
	open.lay(p)
	for q := range open.taken {
		if q.isFilled {
			continue
		}
		args, ahead := s.filledArgs(q)
		if len(ahead) > 0 {
			open.lay(append(ahead, q)...)
			continue
		}
		q.t.Args, q.isFilled = args, true
	}
	return p.t
}

// filledArgs are the types of q's arguments; or ahead are those that must be filled first.
func (s *solver) filledArgs(q *part) (args []types.Type, ahead []*part) {
	for _, a := range q.args {
		a = s.head(a)
		if !a.isFilled {
			ahead = append(ahead, a)
		}
		args = append(args, a.t)
	}
	return args, ahead
}
