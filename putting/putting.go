// Package putting is what layers share that put types into another one at several places at once, so that none of what is put stands in what was put before it.
package putting

import (
	"maps"
	"slices"

	"savant/api"
	"savant/naming"
	"savant/types"
)

// Put is t with types in the places of its leaves, the variables that are free in it and its unknowns: place tells what is put there, if something is. A for all binds another name there, if its own is free in what is put.
func Put(t types.Type, place func(leaf types.Type) (u types.Type, ok bool)) types.Type {
	p := putter{place: place, bound: map[string]types.Type{}}
	if t.Poly() {
		p.catches = freeInPut(t, place)
		taken := maps.Clone(p.catches)
		noteNames(t, taken)
		p.next = naming.New("x", taken)
	}
	return p.put(t)
}

// AtNames is t with types in the places of names that are free in it.
func AtNames(t types.Type, found map[string]types.Type) types.Type {
	return Put(t, func(leaf types.Type) (types.Type, bool) {
		u, ok := found[leaf.Name]
		return u, ok && leaf.Kind == api.Var
	})
}

// freeInPut are the names that are free in what is put into t.
func freeInPut(t types.Type, place func(leaf types.Type) (types.Type, bool)) map[string]struct{} {
	free := map[string]struct{}{}
	note := func(leaf types.Type) {
		if u, ok := place(leaf); ok {
			maps.Copy(free, naming.Set(u.Free()))
		}
	}
	for _, name := range t.Free() {
		note(types.Type{Kind: api.Var, Name: name})
	}
	for _, n := range t.Metas() {
		note(types.Type{Kind: api.Meta, N: n})
	}
	return free
}

// noteNames lays all names that t has anywhere onto a set. A new name that is none of them neither catches nor is caught by what stands there already.
func noteNames(t types.Type, all map[string]struct{}) {
	all[t.Name] = struct{}{}
	for _, a := range t.Args {
		noteNames(a, all)
	}
}

type putter struct {
	place   func(leaf types.Type) (types.Type, bool)
	bound   map[string]types.Type // what stands for the names that for alls around bind
	catches map[string]struct{}   // names that no for all may bind around what is put
	next    func() string
}

func (p *putter) put(t types.Type) types.Type {
	switch t.Kind {
	case api.Var, api.Meta:
		return p.leaf(t)
	case api.All:
		name := t.Name
		if _, ok := p.catches[name]; ok {
			name = p.next()
		}
		defer naming.Cover(p.bound, t.Name, types.Type{Kind: api.Var, Name: name})()
		t.Name = name
	}
	// t is a copy of what was handed in, but its list is not, and must stay as it is.
	t.Args = slices.Clone(t.Args)
	for i, a := range t.Args {
		t.Args[i] = p.put(a)
	}
	return t
}

func (p *putter) leaf(t types.Type) types.Type {
	if u, ok := p.bound[t.Name]; ok && t.Kind == api.Var {
		return u
	}
	if u, ok := p.place(t); ok {
		return u
	}
	return t
}
