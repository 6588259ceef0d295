package check

import (
	"savant/api"
	"savant/coerce"
	"savant/fc"
	"savant/naming"
	"savant/sharing"
)

// term is the type of x by the chapter's table, a rule for each kind.
func (c *checker) term(x fc.Term) *sharing.Node {
	mustHaveItsKids(x)
	switch x.Kind {
	case api.FVar:
		return inScope(c.vars, x.Name)
	case api.FCon, api.FTyApp, api.FCoApp:
		return c.applied(x)
	case api.FLam:
		return c.lambda(x)
	case api.FTyLam:
		return c.forAll(x)
	case api.FApp:
		return c.application(x)
	case api.FLet:
		return c.let(x)
	case api.FCase:
		return c.choice(x)
	}
	return c.cast(x)
}

// mustHaveItsKids throws, if x has not as many Kids as a term of its kind. Of others no rule speaks.
func mustHaveItsKids(x fc.Term) {
	switch x.Kind {
	case api.FVar, api.FCon:
	case api.FApp, api.FLet:
		must(len(x.Kids) == 2)
	default:
		must(api.FLam <= x.Kind && x.Kind <= api.FCast && len(x.Kids) == 1)
	}
}

// longer is l with what terms of a kind have behind it, as many as stand right within one another from x on, the outermost one first; within is what stands within them all.
func longer[T any](l []T, x fc.Term, kind int, has func(x fc.Term) T) (all []T, within fc.Term) {
	for ; x.Kind == kind; x = x.Kids[0] {
		mustHaveItsKids(x)
		l = append(l, has(x))
	}
	return l, x
}

// applied takes what stands right within one another together: so it sees whether a constructor is applied as it must be.
func (c *checker) applied(x fc.Term) *sharing.Node {
	proofs, x := longer(nil, x, api.FCoApp, func(x fc.Term) coerce.Co { return x.Co })
	us, x := longer(nil, x, api.FTyApp, func(x fc.Term) *sharing.Node { return c.wellFormed(x.T) })
	if x.Kind == api.FCon {
		return c.construction(x.Name, us, proofs)
	}
	must(len(proofs) == 0)
	l, ok := c.Instances([]*sharing.Node{c.term(x)}, us)
	must(ok)
	return l[0]
}

func (c *checker) lambda(x fc.Term) *sharing.Node {
	from := c.wellFormed(x.T)
	defer naming.Cover(c.vars, x.Name, from)()
	return c.Node(api.Fun, "", 0, from, c.term(x.Kids[0]))
}

func (c *checker) forAll(x fc.Term) *sharing.Node {
	names, within := longer(nil, x, api.FTyLam, func(x fc.Term) string { return x.Name })
	l := c.ForNames(names, func() []*sharing.Node { return []*sharing.Node{c.term(within)} })
	return l[0]
}

func (c *checker) application(x fc.Term) *sharing.Node {
	f, arg := c.term(x.Kids[0]), c.term(x.Kids[1])
	must(f.Kind == api.Fun && f.Args[0] == arg)
	return f.Args[1]
}

func (c *checker) let(x fc.Term) *sharing.Node {
	t := c.wellFormed(x.T)
	must(c.term(x.Kids[0]) == t)
	defer naming.Cover(c.vars, x.Name, t)()
	return c.term(x.Kids[1])
}

func (c *checker) choice(x fc.Term) *sharing.Node {
	t, of := c.wellFormed(x.T), c.term(x.Kids[0])
	var cons []string
	for _, a := range x.Alts {
		cons = append(cons, a.Con)
		must(c.alternative(a, of) == t)
	}
	mustDiffer(cons)
	return t
}

// mustDiffer throws, if two of these names are one.
func mustDiffer(names []string) {
	must(len(naming.Set(names)) == len(names))
}

func (c *checker) cast(x fc.Term) *sharing.Node {
	from, s := c.term(x.Kids[0]), c.prover.Says(x.Co)
	must(from == s.L)
	return s.R
}
