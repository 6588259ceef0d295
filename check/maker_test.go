package check_test

import (
	"math/rand"
	"slices"
	"strconv"

	"savant/api"
	"savant/coerce"
	"savant/entail"
	"savant/fc"
	"savant/match"
	"savant/types"
)

// maker makes terms that have the types that are asked for, the same ones each time. Each name that it binds is another one.
type maker struct {
	*rand.Rand
	world
	names int
}

func newMaker(w world, seed int64) *maker {
	return &maker{Rand: rand.New(rand.NewSource(seed)), world: w}
}

func pick[T any](m *maker, l ...T) T { return l[m.Intn(len(l))] }

func (m *maker) name(letter string) string {
	m.names++
	return letter + strconv.Itoa(m.names)
}

func (m *maker) scope() scope {
	var s scope
	for _, d := range m.defs {
		s = s.withVar(d.Name, d.T)
	}
	return s
}

func ofData(name string, args ...types.Type) types.Type {
	return types.Type{Kind: api.Con, Name: name, Args: args}
}

func (m *maker) typ(s scope, room int) types.Type {
	if room == 0 || m.Intn(4) == 0 {
		if len(s.types) > 0 && m.Intn(3) > 0 {
			return tv(pick(m, s.types...))
		}
		return ofData(pick(m, "N", "Int", "H", "W", "None", "Any"))
	}
	one := func() types.Type { return m.typ(s, room-1) }
	switch m.Intn(6) {
	case 0:
		name := m.name("a")
		return all(name, m.typ(s.withType(name), room-1))
	case 1, 2:
		return fun(one(), one())
	case 3:
		u := one()
		return ofData(pick(m, "Q", "Eq", "Eq", "J"), u, pick(m, u, one()))
	}
	return ofData(pick(m, "E", "E", "T"), one())
}

// without is a type with a name in some of the places where u stands in it.
func (m *maker) without(t, u types.Type, name string) types.Type {
	if t.Same(u) && m.Intn(4) > 0 {
		return tv(name)
	}
	t.Args = slices.Clone(t.Args)
	for i, a := range t.Args {
		if t.Kind != api.All || !slices.Contains(u.Free(), t.Name) {
			t.Args[i] = m.without(a, u, name)
		}
	}
	return t
}

// part is a type that stands in t where it means the same.
func (m *maker) part(t types.Type) types.Type {
	for len(t.Args) > 0 && t.Kind != api.All && m.Intn(3) > 0 {
		t = pick(m, t.Args...)
	}
	return t
}

// co is a coercion that says that something is t.
func (m *maker) co(s scope, t types.Type, room int) (c coerce.Co, from types.Type) {
	if c, from, ok := m.byGiven(s, t); ok && m.Intn(3) > 0 {
		return c, from
	}
	refl := coerce.Co{Kind: api.CoRefl, T: t}
	if room == 0 {
		return refl, t
	}
	switch m.Intn(7) {
	case 0:
		c, mid := m.co(s, t, room-1)
		c2, from := m.co(s, mid, room-1)
		return coerce.Co{Kind: api.CoTrans, Kids: []coerce.Co{c2, c}}, from
	case 1:
		c, from := m.co(s, t, room-1)
		return sym(sym(c)), from
	case 2:
		c, from := m.co(s, t, room-1)
		other := coerce.Co{Kind: api.CoRefl, T: m.typ(s, 1)}
		with := pick(m, coerce.Co{Kind: api.CoFun}, coerce.Co{Kind: api.CoCon, Name: "Q"})
		n := m.Intn(2)
		with.Kids = slices.Insert([]coerce.Co{other}, n, c)
		return coerce.Co{Kind: api.CoNth, N: n, Kids: []coerce.Co{with}}, from
	case 3:
		name, u := m.name("a"), m.part(t)
		c, from := m.co(s.withType(name), m.without(t, u, name), room-1)
		c = coerce.Co{Kind: api.CoAll, Name: name, Kids: []coerce.Co{c}}
		return coerce.Co{Kind: api.CoInst, Kids: []coerce.Co{c}, T: u}, from.Put(name, u)
	}
	return m.byParts(s, t, room)
}

func sym(c coerce.Co) coerce.Co { return coerce.Co{Kind: api.CoSym, Kids: []coerce.Co{c}} }

func (m *maker) byGiven(s scope, t types.Type) (c coerce.Co, from types.Type, ok bool) {
	for _, i := range m.Perm(len(s.givens)) {
		g := s.givens[i]
		c = coerce.Co{Kind: api.CoVar, Name: g.Name}
		switch {
		case g.R.Same(t):
			return c, g.L, true
		case g.L.Same(t):
			return sym(c), g.R, true
		}
	}
	return c, from, false
}

func (m *maker) byParts(s scope, t types.Type, room int) (c coerce.Co, from types.Type) {
	from = t
	from.Args = slices.Clone(t.Args)
	switch t.Kind {
	case api.All:
		name := m.name("a")
		k, body := m.co(s.withType(name), t.Args[0].Put(t.Name, tv(name)), room-1)
		return coerce.Co{Kind: api.CoAll, Name: name, Kids: []coerce.Co{k}}, all(name, body)
	case api.Con:
		c = coerce.Co{Kind: api.CoCon, Name: t.Name}
	case api.Fun:
		c = coerce.Co{Kind: api.CoFun}
	default:
		return coerce.Co{Kind: api.CoRefl, T: t}, t
	}
	for i, a := range t.Args {
		k, u := m.co(s, a, room-1)
		c.Kids = append(c.Kids, k)
		from.Args[i] = u
	}
	return c, from
}

// term is a term of the type t.
func (m *maker) term(s scope, t types.Type, room int) fc.Term {
	if x, ok := m.variable(s, t); ok && m.Intn(2) == 0 {
		return x
	}
	if room <= 0 {
		return m.least(s, t)
	}
	one := func(t types.Type) fc.Term { return m.term(s, t, room-1) }
	if _, _, ok := m.byGiven(s, t); ok && m.Intn(2) == 0 {
		return m.cast(s, t, room)
	}
	switch m.Intn(10) {
	case 0:
		u := m.typ(s, 2)
		return fc.Term{Kind: api.FApp, Kids: []fc.Term{one(fun(u, t)), one(u)}}
	case 1:
		name, u := m.name("a"), pick(m, m.part(t), m.typ(s, 2))
		return fc.Term{Kind: api.FTyApp, T: u, Kids: []fc.Term{one(all(name, m.without(t, u, name)))}}
	case 2:
		name, u := m.name("x"), m.typ(s, 2)
		return fc.Term{Kind: api.FLet, Name: name, T: u, Kids: []fc.Term{one(u), m.term(s.withVar(name, u), t, room-1)}}
	case 3, 4:
		return m.choice(s, t, room)
	case 5, 6:
		return m.cast(s, t, room)
	}
	return m.built(s, t, room)
}

func (m *maker) cast(s scope, t types.Type, room int) fc.Term {
	c, from := m.co(s, t, 3)
	return fc.Term{Kind: api.FCast, Co: c, Kids: []fc.Term{m.term(s, from, room-1)}}
}

// least is a small term.
func (m *maker) least(s scope, t types.Type) fc.Term {
	if x, ok := m.variable(s, t); ok {
		return x
	}
	return fc.Term{Kind: api.FCase, T: t, Kids: []fc.Term{{Kind: api.FCon, Name: pick(m, "I", "Z", "S")}}}
}

// variable is one of the type t, or one of which that is an instance.
func (m *maker) variable(s scope, t types.Type) (fc.Term, bool) {
	for _, i := range m.Perm(len(s.vars)) {
		v := s.vars[i]
		x := fc.Term{Kind: api.FVar, Name: v.name}
		if v.t.Same(t) {
			return x, true
		}
		if u, ok := m.instance(s, x, v.t, t); ok && v.t.Kind == api.All {
			return u, true
		}
	}
	return fc.Term{}, false
}

func (m *maker) instance(s scope, x fc.Term, poly, t types.Type) (fc.Term, bool) {
	names, body := match.Peel(poly)
	found, ok := match.Match(body, t, names)
	for _, name := range names {
		u := m.typ(s, 1)
		for _, f := range found {
			if f.Name == name {
				u = f.T
			}
		}
		x = fc.Term{Kind: api.FTyApp, T: u, Kids: []fc.Term{x}}
	}
	return x, ok
}

// built is a term of a kind that hangs on its type.
func (m *maker) built(s scope, t types.Type, room int) fc.Term {
	switch t.Kind {
	case api.Fun:
		name := m.name("x")
		return fc.Term{Kind: api.FLam, Name: name, T: t.Args[0], Kids: []fc.Term{m.term(s.withVar(name, t.Args[0]), t.Args[1], room-1)}}
	case api.All:
		name := m.name("a")
		return fc.Term{Kind: api.FTyLam, Name: name, Kids: []fc.Term{m.term(s.withType(name), t.Args[0].Put(t.Name, tv(name)), room-1)}}
	case api.Con:
		cons := m.table.Cons(t.Name)
		for _, i := range m.Perm(len(cons)) {
			if x, ok := m.construction(s, t, cons[i], room); ok {
				return x
			}
		}
	}
	return m.least(s, t)
}

// construction is a constructor that is applied to all that it must be that it makes t, if givens prove what it asks.
func (m *maker) construction(s scope, t types.Type, name string, room int) (fc.Term, bool) {
	k, _ := m.table.Con(name)
	us := slices.Clone(t.Args)
	for _, exis := range k.Exis {
		u := m.typ(s, 1)
		for _, g := range k.Givens {
			norm, _ := entail.Norm(s.givens, s.types, us[slices.Index(k.Univ, g.L.Name)])
			found, ok := match.Match(g.R, norm, k.Exis)
			for _, f := range found {
				if ok && f.Name == exis {
					u = f.T
				}
			}
		}
		us = append(us, u)
	}
	x := fc.Term{Kind: api.FCon, Name: name}
	for _, u := range us {
		x = fc.Term{Kind: api.FTyApp, T: u, Kids: []fc.Term{x}}
	}
	k = (&letter{}).opened(k, us)
	for _, g := range k.Givens {
		c, proved, _ := entail.Prove(s.givens, g.L, g.R)
		if !proved && !g.L.Same(g.R) {
			return x, false
		} else if !proved {
			c = coerce.Co{Kind: api.CoRefl, T: g.L}
		}
		x = fc.Term{Kind: api.FCoApp, Co: c, Kids: []fc.Term{x}}
	}
	for _, a := range k.Args {
		x = fc.Term{Kind: api.FApp, Kids: []fc.Term{x, m.term(s, a, room-1)}}
	}
	return x, true
}

// choice is a case of data, with some alternatives.
func (m *maker) choice(s scope, t types.Type, room int) fc.Term {
	of := ofData(pick(m, "N", "E", "E", "Q", "H", "Eq", "Eq", "W", "J", "T"))
	n, _ := m.table.Arity(of.Name)
	for range n {
		of.Args = append(of.Args, pick(m, m.part(t), m.typ(s, 1)))
	}
	x := fc.Term{Kind: api.FCase, T: t, Kids: []fc.Term{m.term(s, of, room-2)}}
	cons := m.table.Cons(of.Name)
	for _, i := range m.Perm(len(cons))[m.Intn(2):] {
		x.Alts = append(x.Alts, m.alternative(s, of, t, cons[i], room))
	}
	return x
}

func (m *maker) alternative(s scope, of, t types.Type, con string, room int) fc.Alt {
	k, _ := m.table.Con(con)
	a, us := fc.Alt{Con: con}, slices.Clone(of.Args)
	for range k.Exis {
		name := m.name("a")
		s, a.Types, us = s.withType(name), append(a.Types, name), append(us, tv(name))
	}
	k = (&letter{}).opened(k, us)
	for _, g := range k.Givens {
		name := m.name("c")
		s, a.Cos = s.withGiven(name, g.L, g.R), append(a.Cos, name)
	}
	for _, u := range k.Args {
		name := m.name("x")
		s, a.Vars = s.withVar(name, u), append(a.Vars, name)
	}
	a.Body = m.term(s, t, room-1)
	return a
}
