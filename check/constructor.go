package check

import (
	"slices"

	"savant/api"
	"savant/coerce"
	"savant/decls"
	"savant/fc"
	"savant/naming"
	"savant/proving"
	"savant/sharing"
)

// constructor is what one is. Its types are those of its Args, and behind them both sides of each of its Givens, all for all of its Univ and Exis.
type constructor struct {
	decls.Con
	types []*sharing.Node
}

// constructor is the one of that name, which must be there.
func (c *checker) constructor(name string) constructor {
	if k, ok := c.cons[name]; ok {
		return k
	}
	is, ok := c.table.Con(name)
	must(ok)
	l := c.ForNames(slices.Concat(is.Univ, is.Exis), func() (l []*sharing.Node) {
		for _, a := range is.Args {
			l = append(l, c.node(a))
		}
		for _, g := range is.Givens {
			l = append(l, c.node(g.L), c.node(g.R))
		}
		return l
	})
	k := constructor{Con: is, types: l}
	c.cons[name] = k
	return k
}

// opened are a constructor's Args and Givens, with types in the places of its Univ and Exis, as many as these must be.
func (c *checker) opened(k constructor, us []*sharing.Node) (args []*sharing.Node, givens []proving.Sides) {
	must(len(us) == len(k.Univ)+len(k.Exis))
	us = slices.Clone(us)
	slices.Reverse(us)
	l, ok := c.Instances(k.types, us)
	must(ok)
	args = l[:len(k.Args)]
	for sides := range slices.Chunk(l[len(k.Args):], 2) {
		givens = append(givens, proving.Sides{L: sides[0], R: sides[1]})
	}
	return args, givens
}

// construction is the type of a constructor that is applied to types and proofs, of which the outermost ones are told first.
func (c *checker) construction(name string, us []*sharing.Node, proofs []coerce.Co) *sharing.Node {
	slices.Reverse(us)
	slices.Reverse(proofs)
	k := c.constructor(name)
	args, givens := c.opened(k, us)
	must(len(proofs) == len(givens))
	for i, g := range givens {
		must(c.prover.Says(proofs[i]) == g)
	}
	t := c.Node(api.Con, k.Data, 0, us[:len(k.Univ)]...)
	for _, a := range slices.Backward(args) {
		t = c.Node(api.Fun, "", 0, a, t)
	}
	return t
}

// alternative is the type of what an alternative of a case is, if what it is a case of has the type of.
func (c *checker) alternative(a fc.Alt, of *sharing.Node) *sharing.Node {
	k := c.constructor(a.Con)
	must(of.Kind == api.Con && of.Name == k.Data && len(of.Args) == len(k.Univ))
	must(len(a.Types) == len(k.Exis) && len(a.Cos) == len(k.Givens) && len(a.Vars) == len(k.Args))
	mustDiffer(a.Types)
	mustDiffer(a.Cos)
	mustDiffer(a.Vars)
	us := slices.Clone(of.Args)
	for _, name := range a.Types {
		n, leave := c.Bind(name)
		defer leave()
		us = append(us, n)
	}
	args, givens := c.opened(k, us)
	for i, name := range a.Cos {
		defer naming.Cover(c.givens, name, givens[i])()
	}
	for i, name := range a.Vars {
		defer naming.Cover(c.vars, name, args[i])()
	}
	return c.term(a.Body)
}
