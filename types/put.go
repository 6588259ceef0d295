package types

import (
	"savant/api"
	"savant/naming"
)

// Put is t with u in the place of each free variable of that name.
func (t Type) Put(name string, u Type) Type {
	return t.put(u, func(l Type) bool { return l.Kind == api.Var && l.Name == name })
}

// Fill is t with u in the place of each unknown of that number.
func (t Type) Fill(meta int, u Type) Type {
	return t.put(u, func(l Type) bool { return l.Kind == api.Meta && l.N == meta })
}

// put is t with u in the place of each leaf that isPlace tells of. A for all binds another name there, if such a place stands within it and its own name is free in u.
func (t Type) put(u Type, isPlace func(l Type) bool) Type {
	all, within := t.places(isPlace)
	if all == 0 {
		return t
	}
	free := u.Free()
	isFree := naming.Set(free)
	// A new name must not be bound again within what it is put into, nor stand for something there already.
	next := naming.New("x", naming.Set(free, t.names()))
	bind := func(name string) string {
		places := within[0]
		within = within[1:]
		if _, caught := isFree[name]; caught && places > 0 {
			return next()
		}
		return name
	}
	return t.changed(bind, func(l Type) Type {
		if isPlace(l) {
			return u
		}
		return l
	})
}

// places is how many leaves of t isPlace tells of: in all, and within each for all, in the order in which these are written.
func (t Type) places(isPlace func(l Type) bool) (all int, within []int) {
	bound := map[string]int{}
	var around []int
	t.through(bound, func(part Type) {
		if part.Kind == api.All {
			around = append(around, len(within))
			within = append(within, all)
		} else if isLeaf(part, bound) && isPlace(part) {
			all++
		}
	}, func(part Type) {
		if part.Kind == api.All {
			last := len(around) - 1
			within[around[last]] = all - within[around[last]]
			around = around[:last]
		}
	})
	return all, within
}
