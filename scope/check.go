package scope

import (
	"slices"

	"savant/api"
	"savant/syntax"
)

// anyType is the data that is there without a declaration.
const anyType = "Any"

// Check tells the first name of a program that is not as it may be, and what is wrong with it.
func Check(l []syntax.Decl) (name string, e api.Errno) {
	d := declared{data: met{anyType: {}}, cons: met{}, sigs: met{}, binds: met{}}
	for _, look := range []func(x syntax.Decl) []fault{d.twice, d.alone, d.misused} {
		for _, x := range l {
			if name, e := first(look(x)); e != api.OK {
				return name, e
			}
		}
	}
	return "", api.OK
}

// fault is what is wrong with those of the names of which is says yes.
type fault struct {
	names []string
	is    func(name string) bool
	e     api.Errno
}

// first tells the first name with which something is wrong.
func first(l []fault) (name string, e api.Errno) {
	for _, f := range l {
		if i := slices.IndexFunc(f.names, f.is); i >= 0 {
			return f.names[i], f.e
		}
	}
	return "", api.OK
}

// declared are the names that declarations have.
type declared struct{ data, cons, sigs, binds met }

// twice is asked of all declarations first, in order: so the names of all of them are met.
func (d declared) twice(x syntax.Decl) []fault {
	name := []string{x.Name}
	switch x.Kind {
	case api.DeclData:
		return []fault{
			{name, d.data.again, api.ErrTwice},
			{x.Params, met{}.again, api.ErrTwice},
			{namesOfCons(x.Cons), d.cons.again, api.ErrTwice},
		}
	case api.DeclSig:
		return []fault{{name, d.sigs.again, api.ErrTwice}}
	case api.DeclBind:
		return []fault{{name, d.binds.again, api.ErrTwice}}
	}
	return nil
}

func namesOfCons(l []syntax.Con) []string {
	var names []string
	for _, c := range l {
		names = append(names, c.Name)
	}
	return names
}

// alone asks of a signature whether there is its binding.
func (d declared) alone(x syntax.Decl) []fault {
	if x.Kind != api.DeclSig {
		return nil
	}
	return []fault{{[]string{x.Name}, d.binds.lacks, api.ErrAlone}}
}

// misused asks of a binding whether its expression binds and uses names as it may.
func (d declared) misused(x syntax.Decl) []fault {
	if x.Kind != api.DeclBind {
		return nil
	}
	l := []fault{{Bound(x.E), d.binds.has, api.ErrTwice}}
	walk(x.E, func(what int, names ...string) {
		if what == binder {
			l = append(l, fault{names, met{}.again, api.ErrTwice})
		}
	})
	return append(l, fault{Free(x.E), d.binds.lacks, api.ErrUnbound}, fault{Cons(x.E), d.cons.lacks, api.ErrUnbound})
}
