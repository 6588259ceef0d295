package coerce

import (
	"savant/api"
	"savant/naming"
	"savant/types"
)

// writer writes nodes as types. For alls bind names by how many others are around them; none is free anywhere.
type writer struct {
	names []string
	next  func() string
	done  map[spot]types.Type
}

func (p pool) writer() *writer {
	taken := map[string]struct{}{}
	for m := range p {
		if m.kind == api.Var {
			taken[m.name] = struct{}{}
		}
	}
	return &writer{next: naming.New("x", taken), done: map[spot]types.Type{}}
}

// typeOf is a node as a type, which has so many for alls around it. New names cannot be in it.
func (w *writer) typeOf(t *node, around int) types.Type {
	switch {
	case t.written.Kind != 0:
		return t.written
	case t.kind == boundName:
		return types.Type{Kind: api.Var, Name: w.names[around-1-t.n]}
	}
	s := spot{t: t, around: around}
	if u, ok := w.done[s]; ok {
		return u
	}
	u := types.Type{Kind: t.kind, Name: t.name}
	if t.kind == api.All {
		u.Name = w.name(around)
		around++
	}
	for _, a := range t.args {
		u.Args = append(u.Args, w.typeOf(a, around))
	}
	w.done[s] = u
	return u
}

// name is the one that a for all binds that has so many others around it.
func (w *writer) name(around int) string {
	if around == len(w.names) {
		w.names = append(w.names, w.next())
	}
	return w.names[around]
}
