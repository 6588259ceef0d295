package types

import (
	"savant/api"
	"savant/naming"
)

// Same tells whether t and u are alike but for the names that are bound.
func (t Type) Same(u Type) bool {
	p := pair{left: map[string]int{}, right: map[string]int{}}
	return p.same(t, u)
}

// pair is what goes through two types side by side. Where two for alls stand against each other, both their names stand for one number, which no other two have; a name without a number is free.
type pair struct {
	left, right map[string]int
	met         int
}

func (p *pair) same(t, u Type) bool {
	if t.Kind != u.Kind || len(t.Args) != len(u.Args) {
		return false
	}
	switch t.Kind {
	case api.Var:
		l, r := p.left[t.Name], p.right[u.Name]
		return l == r && (l > 0 || t.Name == u.Name)
	case api.Meta:
		return t.N == u.N
	case api.Con:
		return t.Name == u.Name && p.sameArgs(t, u)
	case api.All:
		p.met++
		defer naming.Cover(p.left, t.Name, p.met)()
		defer naming.Cover(p.right, u.Name, p.met)()
	}
	return p.sameArgs(t, u)
}

// sameArgs expects t and u to have as many arguments.
func (p *pair) sameArgs(t, u Type) bool {
	for i, a := range t.Args {
		if !p.same(a, u.Args[i]) {
			return false
		}
	}
	return true
}
