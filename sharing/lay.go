package sharing

import (
	"savant/api"
	"savant/naming"
	"savant/types"
)

// layer lays types out as nodes.
type layer struct {
	pool   Pool
	news   map[string]int // which new names are in the places of names that are free
	bound  map[string]int // how many for alls are around the one that binds a name
	around int
}

// Lay is t's node, with new names of these numbers, from 1 on, in the places of names that are free.
func (p Pool) Lay(t types.Type, news map[string]int) *Node {
	l := layer{pool: p, news: news, bound: map[string]int{}}
	return l.lay(t)
}

func (l *layer) lay(t types.Type) *Node {
	u := l.laid(t)
	if u.open == 0 && u.newest == 0 {
		u.written = t
	}
	return u
}

func (l *layer) laid(t types.Type) *Node {
	switch {
	case t.Kind == api.Var:
		return l.variable(t.Name)
	case t.Kind == api.Meta:
		return l.pool.Node(api.Meta, "", t.N)
	case t.Kind == api.Fun:
		return l.pool.Node(api.Fun, "", 0, l.args(t)...)
	case t.Kind == api.All && len(t.Args) == 1:
		return l.pool.Node(api.All, "", 0, l.behind(t))
	}
	return l.pool.Node(api.Con, t.Name, 0, l.args(t)...)
}

func (l *layer) variable(name string) *Node {
	if n, ok := l.bound[name]; ok {
		return l.pool.Node(BoundName, "", l.around-1-n)
	}
	if n, ok := l.news[name]; ok {
		return l.pool.Node(newName, "", n)
	}
	return l.pool.Node(api.Var, name, 0)
}

func (l *layer) args(t types.Type) []*Node {
	var args []*Node
	for _, a := range t.Args {
		args = append(args, l.lay(a))
	}
	return args
}

// behind is what a for all has behind it.
func (l *layer) behind(t types.Type) *Node {
	defer naming.Cover(l.bound, t.Name, l.around)()
	defer func() { l.around-- }()
	l.around++
	return l.lay(t.Args[0])
}
