package entail

import (
	"slices"

	"savant/api"
	"savant/coerce"
	"savant/joining"
	"savant/sharing"
)

// goal is two types, with so many for alls around them, that are the same with what variables stand for: l ~ r is to be said.
type goal struct {
	l, r   *sharing.Node
	around int
}

// link is what leads from a type towards the root of its tree.
type link struct {
	to    *sharing.Node
	by    *joining.Equation
	depth int // how many links there are up to the root
}

// prover makes coercions of a solution. What is proved once is not gone through again, for proofs have the same ones in them at many places.
type prover struct {
	solution
	writer  *sharing.Writer
	links   map[*sharing.Node]link // the equations that joined types make trees of these
	reasons map[*joining.Equation]coerce.Co
	proofs  map[goal]coerce.Co
}

func newProver(s solution) *prover {
	return &prover{solution: s, writer: s.pool.Writer(), links: map[*sharing.Node]link{}, reasons: map[*joining.Equation]coerce.Co{}, proofs: map[goal]coerce.Co{}}
}

// proof is a coercion that says what the goal is.
func (p *prover) proof(g goal) coerce.Co {
	if g.l == g.r {
		return coerce.Co{Kind: api.CoRefl, T: p.writer.Type(g.l, g.around)}
	}
	c, ok := p.proofs[g]
	if !ok {
		c = chain(p.parts(g))
		p.proofs[g] = c
	}
	return c
}

// parts are coercions that make a proof of the goal, one behind the other.
func (p *prover) parts(g goal) []coerce.Co {
	if p.Head(g.l) == p.Head(g.r) {
		return p.way(g.l, g.r)
	}
	within := goal{l: p.shape(g.l), r: p.shape(g.r), around: g.around}
	there, back := p.way(g.l, within.l), p.way(within.r, g.r)
	return slices.Concat(there, []coerce.Co{p.byArgs(within)}, back)
}

// shape is t, or what it stands for, if it is a variable.
func (p *prover) shape(t *sharing.Node) *sharing.Node {
	if t.Kind == api.Var {
		return p.Head(t)
	}
	return t
}

// byArgs proves what the goal is, of types that fit, by their arguments.
func (p *prover) byArgs(g goal) coerce.Co {
	c := coerce.Co{Name: g.l.Name}
	within := g.around
	switch g.l.Kind {
	case api.Con:
		c.Kind = api.CoCon
	case api.Fun:
		c.Kind = api.CoFun
	case api.All:
		c.Kind, c.Name = api.CoAll, p.writer.Name(g.around)
		within++
	}
	for i, a := range g.l.Args {
		c.Kids = append(c.Kids, p.proof(goal{l: a, r: g.r.Args[i], around: within}))
	}
	return c
}

// way is the proofs that lead from l to r, which equations joined.
func (p *prover) way(l, r *sharing.Node) []coerce.Co {
	if _, ok := p.links[l]; !ok {
		p.plant(l)
	}
	var there, back []coerce.Co
	for l != r {
		x, y := p.links[l], p.links[r]
		if x.depth >= y.depth {
			there = append(there, p.from(l, x.by))
			l = x.to
		} else {
			back = append(back, p.from(y.to, y.by))
			r = y.to
		}
	}
	slices.Reverse(back)
	return append(there, back...)
}

// plant makes a tree of all types that equations joined with root.
func (p *prover) plant(root *sharing.Node) {
	p.links[root] = link{}
	for open := []*sharing.Node{root}; len(open) > 0; open = open[1:] {
		to := open[0]
		for _, q := range p.Joined(to) {
			t := other(q, to)
			if _, met := p.links[t]; !met {
				p.links[t] = link{to: to, by: q, depth: p.links[to].depth + 1}
				open = append(open, t)
			}
		}
	}
}

// other is the side of q that t is not.
func other(q *joining.Equation, t *sharing.Node) *sharing.Node {
	if t == q.L {
		return q.R
	}
	return q.L
}

// from proves that t, which is a side of q, is the other one.
func (p *prover) from(t *sharing.Node, q *joining.Equation) coerce.Co {
	c, ok := p.reasons[q]
	if !ok {
		c = p.reason(q)
		p.reasons[q] = c
	}
	if t == q.L {
		return c
	}
	return coerce.Co{Kind: api.CoSym, Kids: []coerce.Co{c}}
}

// reason proves that q's left side is its right one.
func (p *prover) reason(q *joining.Equation) coerce.Co {
	if q.Of == nil {
		return coerce.Co{Kind: api.CoVar, Name: q.Given}
	}
	return coerce.Co{Kind: api.CoNth, N: q.N, Kids: []coerce.Co{chain(p.way(q.Of.L, q.Of.R))}}
}

// chain is one coercion of some, one behind the other. It is halved again and again, so that not too many stand within one another.
func chain(l []coerce.Co) coerce.Co {
	if len(l) == 1 {
		return l[0]
	}
	half := len(l) / 2
	return coerce.Co{Kind: api.CoTrans, Kids: []coerce.Co{chain(l[:half]), chain(l[half:])}}
}
