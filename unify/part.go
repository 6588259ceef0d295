package unify

import (
	"savant/api"
	"savant/naming"
	"savant/types"
)

// part is a type of the equations, or one within it. An unknown, or a variable that is free, is one part wherever it stands. To go on from one part to another costs the same, however great the types are that these come to when what is known is put in.
type part struct {
	t        types.Type // as it was handed in; when it is filled, with what is known in it
	args     []*part
	constant *part // of a for all: what it binds, which is one part wherever it stands within
	isNew    bool  // of what a for all binds
	isFilled bool
	search   int // the one in which it was met last
}

// partOf lays a type out as parts.
func (s *solver) partOf(t types.Type) *part {
	switch t.Kind {
	case api.Var:
		return one(s.variables, t.Name, t)
	case api.Meta:
		return one(s.unknowns, t.N, t)
	}
	p := &part{t: t}
	if t.Kind == api.All {
		p.constant = &part{t: types.Type{Kind: api.Var, Name: t.Name}, isNew: true}
		defer naming.Cover(s.variables, t.Name, p.constant)()
	}
	for _, a := range t.Args {
		p.args = append(p.args, s.partOf(a))
	}
	return p
}

// one is the part that stands in a map for a name or a number, and is laid there, if none does.
func one[K comparable](parts map[K]*part, key K, t types.Type) *part {
	p, ok := parts[key]
	if !ok {
		p = &part{t: t}
		parts[key] = p
	}
	return p
}

// fits tells whether two parts are the same, if their arguments are. Two variables never fit: one that is the same is the same part.
func (p *part) fits(q *part) bool {
	if p.t.Kind != q.t.Kind || len(p.args) != len(q.args) {
		return false
	}
	switch p.t.Kind {
	case api.Var:
		return false
	case api.Con:
		return p.t.Name == q.t.Name
	}
	return true
}
