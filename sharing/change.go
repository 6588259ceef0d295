package sharing

import (
	"slices"

	"savant/api"
)

// ForAll is the type for all of the new names from first to last, with t behind it. No newer name may be in t.
func (p Pool) ForAll(first, last int, t *Node) *Node {
	c := change{pool: p, done: map[spot]*Node{}}
	c.isIn = func(t *Node, _ int) bool { return t.newest >= first }
	c.put = func(name *Node, around int) *Node { return p.Node(BoundName, "", around+last-name.N) }
	t = c.changed(t, 0)
	for range last - first + 1 {
		t = p.Node(api.All, "", 0, t)
	}
	return t
}

// Instance is what stands behind the first for alls of t, as many as there are types us, which are put in the places of the names that they bind: the last type in those of the first name.
func (p Pool) Instance(t *Node, us []*Node) *Node {
	for range us {
		t = t.Args[0]
	}
	c := change{pool: p, done: map[spot]*Node{}}
	c.isIn = func(t *Node, around int) bool { return t.open > around }
	c.put = func(name *Node, around int) *Node { return us[name.N-around] }
	return c.changed(t, 0)
}

// Instances are ts, each with types us in the places of the names that its for alls bind, one behind the other: the last type first. False, if one of them is no for all when it is its turn. What stands behind for alls that stand right behind one another is gone through once.
func (p Pool) Instances(ts, us []*Node) (l []*Node, ok bool) {
	l = slices.Clone(ts)
	for len(us) > 0 {
		n := len(us)
		for _, t := range l {
			n = forAlls(t, n)
		}
		if n == 0 {
			return nil, false
		}
		rest := len(us) - n
		for i, t := range l {
			l[i] = p.Instance(t, us[rest:])
		}
		us = us[:rest]
	}
	return l, true
}

// forAlls is how many for alls t begins with, as far as the first so many.
func forAlls(t *Node, most int) int {
	n := 0
	for ; n < most && t.Kind == api.All; t = t.Args[0] {
		n++
	}
	return n
}

// change puts something in the places of names, which are nodes without arguments.
type change struct {
	pool Pool
	isIn func(t *Node, around int) bool // whether such a name is in t, or is t; so many for alls are around it
	put  func(name *Node, around int) *Node
	done map[spot]*Node
}

func (c *change) changed(t *Node, around int) *Node {
	if !c.isIn(t, around) {
		return t
	}
	if len(t.Args) == 0 {
		return c.put(t, around)
	}
	s := spot{t: t, around: around}
	if u, ok := c.done[s]; ok {
		return u
	}
	if t.Kind == api.All {
		around++
	}
	var args []*Node
	for _, a := range t.Args {
		args = append(args, c.changed(a, around))
	}
	u := c.pool.Node(t.Kind, t.Name, t.N, args...)
	c.done[s] = u
	return u
}
