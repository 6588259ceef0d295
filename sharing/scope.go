package sharing

import (
	"slices"

	"savant/api"
	"savant/naming"
	"savant/types"
)

// Scope lays out types that stand within what binds names in them. Each name that is bound is a new one, unlike all others: so what was laid out where it was bound means the same further within.
type Scope struct {
	Pool
	news map[string]int
	made int
}

// Scope is one in which no name is bound.
func (p Pool) Scope() *Scope {
	return &Scope{Pool: p, news: map[string]int{}}
}

// Bind binds a name, up to when leave is called, and tells the new one that it is.
func (s *Scope) Bind(name string) (n *Node, leave func()) {
	s.made++
	return s.Node(newName, "", s.made), naming.Cover(s.news, name, s.made)
}

// Binds tells whether a name is bound.
func (s *Scope) Binds(name string) bool {
	_, ok := s.news[name]
	return ok
}

// Type is t's node; false, if t, or a type in it, has not as many arguments as one of its kind.
func (s *Scope) Type(t types.Type) (n *Node, ok bool) {
	if !isType(t) {
		return nil, false
	}
	return s.Lay(t, s.news), true
}

// ForNames are types for all of these names, behind which stands what within answers, while they are bound.
func (s *Scope) ForNames(names []string, within func() []*Node) []*Node {
	first := s.made + 1
	for _, name := range names {
		_, leave := s.Bind(name)
		defer leave()
	}
	last := s.made
	var l []*Node
	for _, t := range within() {
		l = append(l, s.ForAll(first, last, t))
	}
	return l
}

func isType(t types.Type) bool {
	return hasItsArgs(t) && !slices.ContainsFunc(t.Args, func(a types.Type) bool { return !isType(a) })
}

func hasItsArgs(t types.Type) bool {
	switch t.Kind {
	case api.Var, api.Meta, api.Con:
		return true
	case api.Fun:
		return len(t.Args) == 2
	case api.All:
		return len(t.Args) == 1
	}
	return false
}
