package fc

import (
	"slices"

	"savant/api"
	"savant/coerce"
	"savant/types"
)

// PutType is t with u in the place of the type variable of that name, wherever it is free.
func (t Term) PutType(name string, u types.Type) Term {
	return change{
		sort: typeName,
		name: name,
		inType: func(x types.Type) (types.Type, bool) {
			if !slices.Contains(x.Free(), name) {
				return x, false
			}
			return x.Put(name, u), true
		},
		proof:    stays[coerce.Co],
		variable: stays[Term],
	}.put(t)
}

// PutCo is t with c in the place of the proof of that name, wherever it is free.
func (t Term) PutCo(name string, c coerce.Co) Term {
	return change{
		sort:   proofName,
		name:   name,
		inType: stays[types.Type],
		proof: func(v coerce.Co) (coerce.Co, bool) {
			if v.Name != name {
				return v, false
			}
			return c, true
		},
		variable: stays[Term],
	}.put(t)
}

// PutVar is t with u in the place of the variable of that name, wherever it is free.
func (t Term) PutVar(name string, u Term) Term {
	return change{
		sort:   variableName,
		name:   name,
		inType: stays[types.Type],
		proof:  stays[coerce.Co],
		variable: func(v Term) (Term, bool) {
			if v.Name != name {
				return v, false
			}
			return u, true
		},
	}.put(t)
}

// Sorts of names. One that is of another sort is another name, though it is written alike.
const (
	typeName = iota + 1
	proofName
	variableName
)

// change puts something in the place of a name: what becomes of types, of names of proofs and of variables is told by functions, which also tell whether it is something else. Where nothing is, nothing is made anew: great terms are changed a little at a time, again and again.
type change struct {
	sort     int
	name     string
	inType   func(x types.Type) (types.Type, bool)
	proof    func(v coerce.Co) (coerce.Co, bool)
	variable func(v Term) (Term, bool)
}

func stays[T any](x T) (T, bool) { return x, false }

func (c change) put(t Term) Term {
	t, _ = c.term(t)
	return t
}

// isBound tells whether the name is one of these, of this sort, so that it is not free within what binds them.
func (c change) isBound(sort int, names ...string) bool {
	return sort == c.sort && slices.Contains(names, c.name)
}

func (c change) term(t Term) (Term, bool) {
	if t.Kind == api.FVar {
		return c.variable(t)
	}
	var ofType, ofCo, ofKids, ofAlts bool
	t.T, ofType = c.inType(t.T)
	t.Co, ofCo = c.co(t.Co)
	t.Kids, ofKids = each(t.Kids, func(i int, k Term) (Term, bool) {
		if c.isBound(t.binds(i), t.Name) {
			return k, false
		}
		return c.term(k)
	})
	t.Alts, ofAlts = each(t.Alts, func(_ int, a Alt) (Alt, bool) { return c.alternative(a) })
	return t, ofType || ofCo || ofKids || ofAlts
}

// binds is the sort of the name that t binds in its i-th Kid, if it binds one there.
func (t Term) binds(i int) (sort int) {
	switch {
	case t.Kind == api.FTyLam:
		return typeName
	case t.Kind == api.FLam, t.Kind == api.FLet && i == 1:
		return variableName
	}
	return 0
}

func (c change) alternative(a Alt) (Alt, bool) {
	if c.isBound(typeName, a.Types...) || c.isBound(proofName, a.Cos...) || c.isBound(variableName, a.Vars...) {
		return a, false
	}
	var isNew bool
	a.Body, isNew = c.term(a.Body)
	return a, isNew
}

func (c change) co(x coerce.Co) (coerce.Co, bool) {
	switch {
	case x.Kind == api.CoVar:
		return c.proof(x)
	case x.Kind == api.CoAll && c.isBound(typeName, x.Name):
		return x, false
	}
	var ofType, ofKids bool
	x.T, ofType = c.inType(x.T)
	x.Kids, ofKids = each(x.Kids, func(_ int, k coerce.Co) (coerce.Co, bool) { return c.co(k) })
	return x, ofType || ofKids
}

// each is l with what one makes of its pieces: l itself, if that is nothing else of any.
func each[T any](l []T, one func(i int, x T) (T, bool)) (made []T, isNew bool) {
	made = l
	for i, x := range l {
		y, ok := one(i, x)
		if !ok {
			continue
		}
		if !isNew {
			made, isNew = slices.Clone(l), true
		}
		made[i] = y
	}
	return made, isNew
}
