package sharing

import (
	"savant/api"
	"savant/naming"
	"savant/types"
)

// Writer writes nodes as types. For alls bind names by how many others are around them; none is free in any node that was there when the writer was made.
type Writer struct {
	names []string
	next  func() string
	done  map[spot]types.Type
}

// Writer is one for all nodes that are there.
func (p Pool) Writer() *Writer {
	taken := map[string]struct{}{}
	for m := range p {
		if m.kind == api.Var {
			taken[m.name] = struct{}{}
		}
	}
	return &Writer{next: naming.New("x", taken), done: map[spot]types.Type{}}
}

// Type is a node as a type, which has so many for alls around it. New names cannot be in it.
func (w *Writer) Type(t *Node, around int) types.Type {
	switch {
	case t.written.Kind != 0:
		return t.written
	case t.Kind == BoundName:
		return types.Type{Kind: api.Var, Name: w.Name(around - 1 - t.N)}
	}
	s := spot{t: t, around: around}
	if u, ok := w.done[s]; ok {
		return u
	}
	u := types.Type{Kind: t.Kind, Name: t.Name, N: t.N}
	if t.Kind == api.All {
		u.Name = w.Name(around)
		around++
	}
	for _, a := range t.Args {
		u.Args = append(u.Args, w.Type(a, around))
	}
	w.done[s] = u
	return u
}

// Name is the one that a for all binds that has so many others around it.
func (w *Writer) Name(around int) string {
	for around >= len(w.names) {
		w.names = append(w.names, w.next())
	}
	return w.names[around]
}
