package scope

import (
	"savant/api"
	"savant/syntax"
)

// What walk comes by. Where a name is written that binds, and where it begins to, are not one: a let's name stands ahead of what it is, and does not bind there.
const (
	variable = iota
	constructor
	binder
	bindingBegins
	bindingEnds
)

// walk goes through e in the order in which it is written, and hands over what it comes by, with its name; of what an alternative binds, all names at once.
func walk(e syntax.Expr, do func(what int, names ...string)) {
	within := func(parts []syntax.Expr, names ...string) {
		do(bindingBegins, names...)
		for _, part := range parts {
			walk(part, do)
		}
		do(bindingEnds, names...)
	}
	switch e.Kind {
	case api.EVar:
		do(variable, e.Name)
	case api.ECon:
		do(constructor, e.Name)
	case api.ELam:
		do(binder, e.Name)
		within(e.Kids, e.Name)
	case api.ELet:
		do(binder, e.Name)
		outside := min(1, len(e.Kids))
		within(e.Kids[:outside])
		within(e.Kids[outside:], e.Name)
	default:
		within(e.Kids)
	}
	for _, a := range e.Alts {
		do(constructor, a.Con)
		do(binder, a.Vars...)
		within([]syntax.Expr{a.Body}, a.Vars...)
	}
}
