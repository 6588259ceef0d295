// Package sharing is what layers share that hold types as nodes. In a pool types that are the same are one node: so they are held against one another at once, and what is in them at many places is gone through once, however great they are.
package sharing

import (
	"strconv"

	"savant/api"
	"savant/types"
)

// Kinds of nodes beside those of types.
const (
	BoundName = -1 // a variable that a for all around binds: N tells how many other for alls are between the two
	newName   = -2 // the N-th new name, which is in no text
)

// Node is a type. No names that are bound are in it.
type Node struct {
	Kind    int
	Name    string // of a constructor, or of a variable that is free
	N       int
	Args    []*Node
	number  int        // no other node of the pool has it
	open    int        // how many for alls it asks for around it, that bind what is bound in it
	newest  int        // the greatest N of new names in it, 0 without any
	written types.Type // a type that it was laid out for, if it means the same everywhere
}

// makeup is what tells a node from others.
type makeup struct {
	kind int
	name string
	n    int
	args string // the arguments' numbers
}

// spot is a node, and how many for alls are around it.
type spot struct {
	t      *Node
	around int
}

// Pool has the nodes that are made.
type Pool map[makeup]*Node

// Node is the one that is this.
func (p Pool) Node(kind int, name string, n int, args ...*Node) *Node {
	m := makeup{kind: kind, name: name, n: n, args: numbers(args)}
	t, ok := p[m]
	if !ok {
		t = &Node{Kind: kind, Name: name, N: n, Args: args, number: len(p)}
		t.open, t.newest = asks(t)
		p[m] = t
	}
	return t
}

func numbers(l []*Node) string {
	var text []byte
	for _, t := range l {
		text = append(strconv.AppendInt(text, int64(t.number), 10), ' ')
	}
	return string(text)
}

// asks tells what a node's open and newest are.
func asks(t *Node) (open, newest int) {
	for _, a := range t.Args {
		open, newest = max(open, a.open), max(newest, a.newest)
	}
	switch t.Kind {
	case api.All:
		open = max(open-1, 0)
	case BoundName:
		open = t.N + 1
	case newName:
		newest = t.N
	}
	return open, newest
}
