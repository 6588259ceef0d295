package types

import (
	"strconv"
	"strings"

	"savant/api"
)

// Places where a type stands. What needs parentheses in one of them needs them in those behind it too.
const (
	alone = iota
	leftSide
	argument
)

// Print is t's text.
func (t Type) Print() string {
	var b strings.Builder
	t.write(&b, alone)
	return b.String()
}

func (t Type) write(b *strings.Builder, place int) {
	if !t.mustBeInParentheses(place) {
		t.writeBare(b)
		return
	}
	b.WriteByte('(')
	t.writeBare(b)
	b.WriteByte(')')
}

func (t Type) mustBeInParentheses(place int) bool {
	switch t.Kind {
	case api.Fun, api.All:
		return place != alone
	case api.Con:
		return place == argument && len(t.Args) > 0
	}
	return false
}

func (t Type) writeBare(b *strings.Builder) {
	switch {
	case t.Kind == api.Meta:
		b.WriteByte('?')
		b.WriteString(strconv.Itoa(t.N))
	case t.Kind == api.Fun && len(t.Args) == 2:
		t.Args[0].write(b, leftSide)
		b.WriteString(" -> ")
		t.Args[1].write(b, alone)
	case t.isForAll():
		t.writeForAll(b)
	default:
		b.WriteString(t.Name)
		for _, a := range t.Args {
			b.WriteByte(' ')
			a.write(b, argument)
		}
	}
}

// isForAll asks for the argument too: without one there would be no end to writing what stands behind it.
func (t Type) isForAll() bool {
	return t.Kind == api.All && len(t.Args) == 1
}

func (t Type) writeForAll(b *strings.Builder) {
	b.WriteString("forall")
	for t.isForAll() {
		b.WriteByte(' ')
		b.WriteString(t.Name)
		t = t.Args[0]
	}
	b.WriteString(". ")
	t.write(b, alone)
}
