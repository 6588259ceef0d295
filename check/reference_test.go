package check_test

import (
	"slices"
	"strconv"

	"savant/api"
	"savant/coerce"
	"savant/decls"
	"savant/fc"
	"savant/types"
)

// letter goes by the chapter's table to the letter: types are trees, and a name that is bound as one of types or of proofs is put, as one that stands nowhere else, in its place wherever it is free. Each rule answers false, if something is not as it asks.
type letter struct {
	table *decls.Table
	names int
}

// scope is what is in scope, the innermost last.
type scope struct {
	vars   []typed
	types  []string
	givens []coerce.Given
}

type typed struct {
	name string
	t    types.Type
}

func (s scope) withVar(name string, t types.Type) scope {
	s.vars = append(slices.Clone(s.vars), typed{name, t})
	return s
}

func (s scope) withType(name string) scope {
	s.types = append(slices.Clone(s.types), name)
	return s
}

func (s scope) withGiven(name string, l, r types.Type) scope {
	s.givens = append(slices.Clone(s.givens), coerce.Given{Name: name, L: l, R: r})
	return s
}

func (x *letter) nowhere() string {
	x.names++
	return "nowhere_" + strconv.Itoa(x.names)
}

func tv(name string) types.Type { return types.Type{Kind: api.Var, Name: name} }

func fun(from, to types.Type) types.Type {
	return types.Type{Kind: api.Fun, Args: []types.Type{from, to}}
}

func all(name string, t types.Type) types.Type {
	return types.Type{Kind: api.All, Name: name, Args: []types.Type{t}}
}

func (x *letter) isWellFormed(s scope, t types.Type) bool {
	for _, name := range s.types {
		t = t.Put(name, types.Type{Kind: api.Con, Name: "Any"})
	}
	return x.table.Good(t) == api.OK
}

func (x *letter) isWellFormedCo(s scope, c coerce.Co) bool {
	switch c.Kind {
	case api.CoRefl, api.CoInst:
		if !x.isWellFormed(s, c.T) {
			return false
		}
	case api.CoCon:
		if n, ok := x.table.Arity(c.Name); !ok || n != len(c.Kids) {
			return false
		}
	case api.CoAll:
		s = s.withType(c.Name)
	}
	return !slices.ContainsFunc(c.Kids, func(k coerce.Co) bool { return !x.isWellFormedCo(s, k) })
}

func (x *letter) says(s scope, c coerce.Co) (l, r types.Type, ok bool) {
	l, r, e := coerce.Says(s.givens, c)
	return l, r, e == api.OK && x.isWellFormedCo(s, c)
}

func (x *letter) term(s scope, e fc.Term) (types.Type, bool) {
	if t, is, ok := x.construction(s, e); is {
		return t, ok
	}
	switch e.Kind {
	case api.FVar:
		for _, v := range slices.Backward(s.vars) {
			if v.name == e.Name {
				return v.t, true
			}
		}
	case api.FLam:
		if x.isWellFormed(s, e.T) {
			r, ok := x.term(s.withVar(e.Name, e.T), e.Kids[0])
			return fun(e.T, r), ok
		}
	case api.FTyLam:
		name := x.nowhere()
		r, ok := x.term(s.withType(name), e.Kids[0].PutType(e.Name, tv(name)))
		return all(name, r), ok
	case api.FApp:
		f, ok := x.term(s, e.Kids[0])
		u, ok2 := x.term(s, e.Kids[1])
		if ok && ok2 && f.Kind == api.Fun && f.Args[0].Same(u) {
			return f.Args[1], true
		}
	case api.FTyApp:
		t, ok := x.term(s, e.Kids[0])
		if ok && t.Kind == api.All && x.isWellFormed(s, e.T) {
			return t.Args[0].Put(t.Name, e.T), true
		}
	case api.FLet:
		if u, ok := x.term(s, e.Kids[0]); ok && x.isWellFormed(s, e.T) && u.Same(e.T) {
			return x.term(s.withVar(e.Name, e.T), e.Kids[1])
		}
	case api.FCase:
		return x.choice(s, e)
	case api.FCast:
		t, ok := x.term(s, e.Kids[0])
		l, r, ok2 := x.says(s, e.Co)
		return r, ok && ok2 && l.Same(t)
	}
	return types.Type{}, false
}

// construction tells of a constructor that is applied, to whatever, whether it is so as it must be, and its type; of other terms that they are none.
func (x *letter) construction(s scope, e fc.Term) (t types.Type, is, ok bool) {
	var us []types.Type
	var cos []coerce.Co
	for e.Kind == api.FCoApp {
		cos = append([]coerce.Co{e.Co}, cos...)
		e = e.Kids[0]
	}
	for e.Kind == api.FTyApp {
		us = append([]types.Type{e.T}, us...)
		e = e.Kids[0]
	}
	if e.Kind != api.FCon {
		return t, false, false
	}
	k, ok := x.table.Con(e.Name)
	if !ok || len(us) != len(k.Univ)+len(k.Exis) || len(cos) != len(k.Givens) {
		return t, true, false
	}
	for _, u := range us {
		ok = ok && x.isWellFormed(s, u)
	}
	k = x.opened(k, us)
	for i, g := range k.Givens {
		l, r, says := x.says(s, cos[i])
		ok = ok && says && l.Same(g.L) && r.Same(g.R)
	}
	t = types.Type{Kind: api.Con, Name: k.Data, Args: us[:len(k.Univ)]}
	for _, a := range slices.Backward(k.Args) {
		t = fun(a, t)
	}
	return t, true, ok
}

// opened is a constructor with types in the places of its Univ and Exis: first names that stand nowhere else, so that what is put is not put into.
func (x *letter) opened(k decls.Con, us []types.Type) decls.Con {
	names := slices.Concat(k.Univ, k.Exis)
	var news []string
	for range names {
		news = append(news, x.nowhere())
	}
	put := func(t types.Type) types.Type {
		for i, name := range names {
			t = t.Put(name, tv(news[i]))
		}
		for i, name := range news {
			t = t.Put(name, us[i])
		}
		return t
	}
	k.Args, k.Givens = slices.Clone(k.Args), slices.Clone(k.Givens)
	for i, a := range k.Args {
		k.Args[i] = put(a)
	}
	for i, g := range k.Givens {
		k.Givens[i] = coerce.Given{Name: g.Name, L: put(g.L), R: put(g.R)}
	}
	return k
}

func (x *letter) choice(s scope, e fc.Term) (types.Type, bool) {
	of, ok := x.term(s, e.Kids[0])
	if !ok || !x.isWellFormed(s, e.T) {
		return types.Type{}, false
	}
	for i, a := range e.Alts {
		isAgain := slices.ContainsFunc(e.Alts[:i], func(b fc.Alt) bool { return a.Con == b.Con })
		if t, ok := x.alternative(s, of, a); !ok || !t.Same(e.T) || isAgain {
			return types.Type{}, false
		}
	}
	return e.T, true
}

func (x *letter) alternative(s scope, of types.Type, a fc.Alt) (types.Type, bool) {
	k, ok := x.table.Con(a.Con)
	if !ok || of.Kind != api.Con || of.Name != k.Data || len(a.Types) != len(k.Exis) || len(a.Cos) != len(k.Givens) || len(a.Vars) != len(k.Args) {
		return types.Type{}, false
	}
	if areTwoAlike(a.Types) || areTwoAlike(a.Cos) || areTwoAlike(a.Vars) {
		return types.Type{}, false
	}
	us, body := slices.Clone(of.Args), a.Body
	for _, old := range a.Types {
		name := x.nowhere()
		s, body, us = s.withType(name), body.PutType(old, tv(name)), append(us, tv(name))
	}
	k = x.opened(k, us)
	for i, g := range k.Givens {
		name := x.nowhere()
		s, body = s.withGiven(name, g.L, g.R), body.PutCo(a.Cos[i], coerce.Co{Kind: api.CoVar, Name: name})
	}
	for i, t := range k.Args {
		s = s.withVar(a.Vars[i], t)
	}
	return x.term(s, body)
}

func areTwoAlike(l []string) bool {
	for i, name := range l {
		if slices.Contains(l[:i], name) {
			return true
		}
	}
	return false
}

// asTold is what Term tells by the chapter's table.
func (w world) asTold(e fc.Term) string {
	var s scope
	for _, d := range w.defs {
		s = s.withVar(d.Name, d.T)
	}
	x := letter{table: w.table}
	if t, ok := x.term(s, e); ok {
		return told(t, api.OK)
	}
	return ill
}
