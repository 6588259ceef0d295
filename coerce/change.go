package coerce

import "savant/api"

// forAll is the type for all of the new names from first to last, with t behind it. No newer name may be in t.
func (p pool) forAll(first, last int, t *node) *node {
	c := change{pool: p, done: map[spot]*node{}}
	c.isIn = func(t *node, _ int) bool { return t.newest >= first }
	c.put = func(name *node, around int) *node { return p.node(boundName, "", around+last-name.n) }
	t = c.changed(t, 0)
	for range last - first + 1 {
		t = p.node(api.All, "", 0, t)
	}
	return t
}

// instance is what stands behind the first for alls of t, as many as there are types us, which are put in the places of the names that they bind: the last type in those of the first name.
func (p pool) instance(t *node, us []*node) *node {
	for range us {
		t = t.args[0]
	}
	c := change{pool: p, done: map[spot]*node{}}
	c.isIn = func(t *node, around int) bool { return t.open > around }
	c.put = func(name *node, around int) *node { return us[name.n-around] }
	return c.changed(t, 0)
}

// change puts something in the places of names, which are nodes without arguments.
type change struct {
	pool pool
	isIn func(t *node, around int) bool // whether such a name is in t, or is t; so many for alls are around it
	put  func(name *node, around int) *node
	done map[spot]*node
}

func (c *change) changed(t *node, around int) *node {
	if !c.isIn(t, around) {
		return t
	}
	if len(t.args) == 0 {
		return c.put(t, around)
	}
	s := spot{t: t, around: around}
	if u, ok := c.done[s]; ok {
		return u
	}
	if t.kind == api.All {
		around++
	}
	var args []*node
	for _, a := range t.args {
		args = append(args, c.changed(a, around))
	}
	u := c.pool.node(t.kind, t.name, t.n, args...)
	c.done[s] = u
	return u
}
