package coerce

import (
	"savant/api"
	"savant/naming"
	"savant/types"
)

// layer lays types out as nodes.
type layer struct {
	pool   pool
	stands map[string]*node // what is in the places of names that are free
	bound  map[string]int   // how many for alls are around the one that binds a name
	around int
}

// lay is t's node.
func (p pool) lay(t types.Type, stands map[string]*node) *node {
	l := layer{pool: p, stands: stands, bound: map[string]int{}}
	return l.lay(t)
}

func (l *layer) lay(t types.Type) *node {
	u := l.laid(t)
	if u.open == 0 && u.newest == 0 {
		u.written = t
	}
	return u
}

func (l *layer) laid(t types.Type) *node {
	must(hasItsArgs(t))
	switch t.Kind {
	case api.Var:
		return l.variable(t.Name)
	case api.Meta:
		return l.pool.node(api.Meta, "", t.N)
	case api.Fun:
		return l.pool.node(api.Fun, "", 0, l.args(t)...)
	case api.All:
		return l.pool.node(api.All, "", 0, l.behind(t))
	}
	return l.pool.node(api.Con, t.Name, 0, l.args(t)...)
}

// hasItsArgs tells whether t has as many arguments as a type of its kind does. Of others no rule speaks.
func hasItsArgs(t types.Type) bool {
	switch t.Kind {
	case api.Var, api.Meta, api.Con:
		return true
	case api.Fun:
		return len(t.Args) == 2
	case api.All:
		return len(t.Args) == 1
	}
	return false
}

func (l *layer) variable(name string) *node {
	if n, ok := l.bound[name]; ok {
		return l.pool.node(boundName, "", l.around-1-n)
	}
	if u, ok := l.stands[name]; ok {
		return u
	}
	return l.pool.node(api.Var, name, 0)
}

func (l *layer) args(t types.Type) []*node {
	var args []*node
	for _, a := range t.Args {
		args = append(args, l.lay(a))
	}
	return args
}

// behind is what a for all has behind it.
func (l *layer) behind(t types.Type) *node {
	defer naming.Cover(l.bound, t.Name, l.around)()
	defer func() { l.around-- }()
	l.around++
	return l.lay(t.Args[0])
}
