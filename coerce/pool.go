package coerce

import (
	"strconv"

	"savant/api"
	"savant/types"
)

// Kinds of nodes beside those of types.
const (
	boundName = -1 // a variable that a for all around binds: n tells how many other for alls are between the two
	newName   = -2 // what is in the place of the name of the n-th CoAll
)

// node is a type. In a pool types that are the same are one node, for no names that are bound are in it. So great types, which coercions make of short texts, are held against one another at once, and what is in them at many places is gone through once.
type node struct {
	makeup
	args    []*node
	number  int        // no other node of the pool has it
	open    int        // how many for alls it asks for around it, that bind what is bound in it
	newest  int        // the greatest n of new names in it, 0 without any
	written types.Type // a type that it was laid out for, if it means the same everywhere
}

// makeup is what tells a node from others.
type makeup struct {
	kind int
	name string // of a constructor, or of a variable that is free
	n    int
	args string // the arguments' numbers
}

// spot is a node, and how many for alls are around it.
type spot struct {
	t      *node
	around int
}

// pool has the nodes that are made.
type pool map[makeup]*node

// node is the one that is this.
func (p pool) node(kind int, name string, n int, args ...*node) *node {
	m := makeup{kind: kind, name: name, n: n, args: numbers(args)}
	t, ok := p[m]
	if !ok {
		t = &node{makeup: m, args: args, number: len(p)}
		t.open, t.newest = asks(t)
		p[m] = t
	}
	return t
}

func numbers(l []*node) string {
	var text []byte
	for _, t := range l {
		text = append(strconv.AppendInt(text, int64(t.number), 10), ' ')
	}
	return string(text)
}

// asks tells what a node's open and newest are.
func asks(t *node) (open, newest int) {
	for _, a := range t.args {
		open, newest = max(open, a.open), max(newest, a.newest)
	}
	switch t.kind {
	case api.All:
		open = max(open-1, 0)
	case boundName:
		open = t.n + 1
	case newName:
		newest = t.n
	}
	return open, newest
}
