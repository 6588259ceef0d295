package match

import (
	"maps"
	"slices"

	"savant/api"
	"savant/naming"
	"savant/types"
)

// put is t with types in the place of the names that are free in it, all at once: none of what is put stands in what was put before it. A for all binds another name there, if its own is free in what is put.
func put(t types.Type, place map[string]types.Type) types.Type {
	if len(place) == 0 {
		return t
	}
	catches, taken := map[string]struct{}{}, map[string]struct{}{}
	for _, u := range place {
		for _, name := range u.Free() {
			catches[name], taken[name] = struct{}{}, struct{}{}
		}
	}
	noteNames(t, taken)
	p := putter{stands: maps.Clone(place), catches: catches, next: naming.New("x", taken)}
	return p.put(t)
}

// noteNames lays all names that t has anywhere onto a set. A new name that is none of them neither catches nor is caught by what stands there already.
func noteNames(t types.Type, all map[string]struct{}) {
	all[t.Name] = struct{}{}
	for _, a := range t.Args {
		noteNames(a, all)
	}
}

type putter struct {
	stands  map[string]types.Type // what stands in the place of a name
	catches map[string]struct{}   // names that no for all may bind around what is put
	next    func() string
}

func (p *putter) put(t types.Type) types.Type {
	switch t.Kind {
	case api.Var:
		if u, ok := p.stands[t.Name]; ok {
			return u
		}
	case api.All:
		name := t.Name
		if _, ok := p.catches[name]; ok {
			name = p.next()
		}
		defer naming.Cover(p.stands, t.Name, types.Type{Kind: api.Var, Name: name})()
		t.Name = name
	}
	t.Args = slices.Clone(t.Args)
	for i, a := range t.Args {
		t.Args[i] = p.put(a)
	}
	return t
}
