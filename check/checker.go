package check

import (
	"savant/api"
	"savant/coerce"
	"savant/decls"
	"savant/fc"
	"savant/proving"
	"savant/putting"
	"savant/sharing"
	"savant/types"
)

// checker goes by the chapter's rules. Types are held as nodes: of short terms come some that are too great to be written.
type checker struct {
	*sharing.Scope // in which type variables are bound
	table          *decls.Table
	prover         proving.Prover[coerce.Co]
	vars           map[string]*sharing.Node
	givens         map[string]proving.Sides
	cons           map[string]constructor // those that were asked for
}

func newChecker(t *decls.Table, defs []fc.Def) *checker {
	c := &checker{
		Scope:  sharing.Pool{}.Scope(),
		table:  t,
		vars:   map[string]*sharing.Node{},
		givens: map[string]proving.Sides{},
		cons:   map[string]constructor{},
	}
	c.prover = proving.Prover[coerce.Co]{
		Scope:     c.Scope,
		Parts:     func(x coerce.Co) proving.Parts[coerce.Co] { return proving.Parts[coerce.Co](x) },
		Must:      must,
		Given:     func(name string) proving.Sides { return inScope(c.givens, name) },
		TypeOf:    c.wellFormed,
		MustBeCon: c.mustBeData,
	}
	for _, d := range defs {
		if u, ok := c.Type(d.T); ok {
			c.vars[d.Name] = u
		}
	}
	return c
}

// inScope is what a name stands for, which must be there.
func inScope[V any](names map[string]V, name string) V {
	v, ok := names[name]
	must(ok)
	return v
}

// wellFormed is the node of a type that must be well formed.
func (c *checker) wellFormed(t types.Type) *sharing.Node {
	someType := types.Type{Kind: api.Con, Name: "Any"}
	closed := putting.Put(t, func(leaf types.Type) (types.Type, bool) {
		return someType, leaf.Kind == api.Var && c.Binds(leaf.Name)
	})
	must(c.table.Good(closed) == api.OK)
	return c.node(t)
}

func (c *checker) node(t types.Type) *sharing.Node {
	n, ok := c.Type(t)
	must(ok)
	return n
}

// mustBeData throws, if there is no data of that name with as many arguments.
func (c *checker) mustBeData(name string, args int) {
	arity, ok := c.table.Arity(name)
	must(ok && arity == args)
}
