package sharing

// End is where the way from t ends that leads from each type to the one that stands for it.
func End(stands map[*Node]*Node, t *Node) *Node {
	for u, ok := stands[t]; ok; u, ok = stands[t] {
		// The way from t gets shorter each time it is gone.
		if further, ok := stands[u]; ok {
			stands[t] = further
		}
		t = u
	}
	return t
}

// Fits tells whether t and u, which no other type stands for, are the same, if their arguments are.
func (t *Node) Fits(u *Node) bool {
	return t.Kind == u.Kind && t.Name == u.Name && t.N == u.N && len(t.Args) == len(u.Args)
}

// Filler fills types: what stands for them, or for something in them, comes into its place.
type Filler struct {
	pool Pool
	head func(t *Node) *Node
	done map[*Node]*Node
}

// Filler is one by head, which tells what a type is, as far as one must see to tell its kind; what that is must not change as long as it fills.
func (p Pool) Filler(head func(t *Node) *Node) *Filler {
	return &Filler{pool: p, head: head, done: map[*Node]*Node{}}
}

// Filled is t with all that stands for what is in it.
func (f *Filler) Filled(t *Node) *Node {
	t = f.head(t)
	if u, ok := f.done[t]; ok {
		return u
	}
	var args []*Node
	for _, a := range t.Args {
		args = append(args, f.Filled(a))
	}
	u := f.pool.Node(t.Kind, t.Name, t.N, args...)
	f.done[t] = u
	return u
}
