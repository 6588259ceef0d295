package decls

import (
	"slices"

	"savant/api"
	"savant/types"
)

// Good tells what a type lacks to be a signature.
func (t *Table) Good(u types.Type) api.Errno {
	switch {
	case t.isIllFormed(u):
		return api.ErrKind
	case len(u.Free()) > 0:
		return api.ErrOpen
	}
	return api.OK
}

func (t *Table) isIllFormed(u types.Type) bool {
	return u.Kind == api.Meta || u.Kind == api.Con && !t.has(u.Name, len(u.Args)) || slices.ContainsFunc(u.Args, t.isIllFormed)
}

// has tells whether there is data of that name with as many arguments.
func (t *Table) has(name string, args int) bool {
	arity, ok := t.Arity(name)
	return ok && arity == args
}
