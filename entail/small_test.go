package entail_test

import (
	"math/rand"
	"slices"
	"strconv"
	"strings"
	"testing"

	"savant/api"
	"savant/coerce"
	"savant/entail"
	"savant/types"
)

// maker makes types and givens, the same ones each time.
type maker struct{ *rand.Rand }

func newMaker(seed int64) maker { return maker{rand.New(rand.NewSource(seed))} }

func pick[T any](m maker, l ...T) T { return l[m.Intn(len(l))] }

var names = []string{"a", "b", "d", "e", "x0", "x1"}

func (m maker) typ(room int) types.Type {
	if room == 0 || m.Intn(3) == 0 {
		if m.Intn(6) > 0 {
			return v(pick(m, names...))
		}
		return pick(m, con("U"), con("T"), meta(1), meta(2))
	}
	switch m.Intn(3) {
	case 0:
		return con(pick(m, "T", "U"), m.typ(room-1))
	case 1:
		return con("P", m.typ(room-1), m.typ(room-1))
	}
	return fun(m.typ(room-1), m.typ(room-1))
}

// poly are types with for alls in them.
func (m maker) poly(room int) types.Type {
	if room == 0 || m.Intn(5) == 0 {
		return m.typ(room)
	}
	switch m.Intn(4) {
	case 0:
		return fun(m.poly(room-1), m.poly(room-1))
	case 1:
		return con("P", m.poly(room-1), m.poly(room-1))
	}
	return all(pick(m, names...), m.poly(room-1))
}

// givens are so that they often do not contradict one another.
func (m maker) givens(most int) []coerce.Given {
	var l []coerce.Given
	for i := range m.Intn(most + 1) {
		g := coerce.Given{Name: "c" + strconv.Itoa(i), L: m.typ(2), R: m.typ(2)}
		switch m.Intn(6) {
		case 0:
			g.L = v(pick(m, names...))
		case 1:
			g.R = v(pick(m, names...))
		case 2:
			g.L, g.R = v(pick(m, names...)), v(pick(m, names...))
		case 3:
			g.R = m.like(g.L)
		}
		l = append(l, g)
	}
	return l
}

// like is t with other leaves at some places.
func (m maker) like(t types.Type) types.Type {
	if len(t.Args) == 0 && t.Kind != api.Con {
		return pick(m, t, t, m.typ(0), m.typ(1))
	}
	t.Args = slices.Clone(t.Args)
	for i, a := range t.Args {
		t.Args[i] = m.like(a)
	}
	return t
}

// order has names of which some stand twice, and some nowhere else.
func (m maker) order() []string {
	var l []string
	for range m.Intn(8) {
		l = append(l, pick(m, append(names, "z", "y")...))
	}
	return l
}

// other is a type that is often equal to t by givens: some of its parts are those that givens say.
func (m maker) other(gs []coerce.Given, t types.Type) types.Type {
	for _, g := range gs {
		if g.L.Same(t) && m.Intn(2) == 0 {
			return m.other(gs[:0], g.R)
		}
		if g.R.Same(t) && m.Intn(2) == 0 {
			return m.other(gs[:0], g.L)
		}
	}
	if t.Kind == api.All {
		name := "bound_" + strconv.Itoa(m.Intn(3))
		return all(name, m.other(gs, t.Args[0].Put(t.Name, v(name))))
	}
	t.Args = slices.Clone(t.Args)
	for i, a := range t.Args {
		t.Args[i] = m.other(gs, a)
	}
	return t
}

// isAsInReference asks Norm and Prove for what the reference answers, and tells which that is of Prove.
func isAsInReference(t *testing.T, gs []coerce.Given, order []string, l, r types.Type) string {
	t.Helper()
	x, e := newReference(gs, order, l, r)
	if e != api.OK {
		for _, got := range []string{told(entail.Norm(gs, order, l)), proved(t, gs, l, r)} {
			if got != errorName(e) {
				t.Errorf("by %q: %q, not %v", written(gs), got, e)
			}
		}
		return errorName(e)
	}
	for _, u := range []types.Type{l, r} {
		if got, want := told(entail.Norm(gs, order, u)), x.norm(u).Canon(); got != want {
			t.Errorf("by %q in the order %q Norm of %q is %q, not %q", written(gs), order, u.Print(), got, want)
		}
	}
	want := "not"
	if x.norm(l).Same(x.norm(r)) {
		want = "proved"
	}
	if got := proved(t, gs, l, r); got != want {
		t.Errorf("by %q %q ~ %q is %q, not %q", written(gs), l.Print(), r.Print(), got, want)
	}
	return want
}

// F1, F2: of many givens and types what is told is as in the reference, and each answer is met often.
func TestManyGivens(t *testing.T) {
	met := map[string]int{}
	m := newMaker(1)
	for range 40000 {
		gs, l := m.givens(4), m.poly(3)
		r := pick(m, m.other(gs, l), m.poly(2))
		got := isAsInReference(t, gs, m.order(), l, r)
		if got == "proved" && l.Same(r) {
			got = "the same"
		}
		met[got]++
	}
	for _, answer := range []string{"proved", "not", "contra", "the same"} {
		if met[answer] < 1000 {
			t.Errorf("%q is met %d times", answer, met[answer])
		}
	}
}

// F2: likewise of all two parts of what givens say.
func TestPartsOfGivens(t *testing.T) {
	met := map[string]int{}
	m := newMaker(2)
	for range 4000 {
		gs := m.givens(6)
		var parts []types.Type
		for _, g := range gs {
			parts = append(parts, partsOf(g.L)...)
			parts = append(parts, partsOf(g.R)...)
		}
		for range min(len(parts), 10) {
			met[isAsInReference(t, gs, nil, pick(m, parts...), pick(m, parts...))]++
		}
	}
	if met["proved"] < 2000 || met["not"] < 2000 {
		t.Error(met)
	}
}

// partsOf is t, and all that is in it.
func partsOf(t types.Type) []types.Type {
	l := []types.Type{t}
	for _, a := range t.Args {
		l = append(l, partsOf(a)...)
	}
	return l
}

// some are givens that do not contradict one another, with two types each.
func (m maker) some(n int, do func(gs []coerce.Given, l, r types.Type)) {
	for range n {
		gs, l := m.givens(4), m.poly(3)
		if _, e := entail.Norm(gs, nil, l); e == api.OK {
			do(gs, l, m.other(gs, m.other(gs, l)))
		}
	}
}

// F3: what is equal by givens has one Norm, whatever the order is; that is equal to it, and its own Norm.
func TestOneNorm(t *testing.T) {
	m := newMaker(3)
	equal := 0
	m.some(20000, func(gs []coerce.Given, l, r types.Type) {
		order := m.order()
		x, _ := entail.Norm(gs, order, l)
		y, _ := entail.Norm(gs, order, r)
		_, ok, _ := entail.Prove(gs, l, r)
		if ok != x.Same(y) {
			t.Errorf("by %q %q ~ %q: %v, but Norms are %q and %q", written(gs), l.Print(), r.Print(), ok, x.Print(), y.Print())
		}
		if ok && !l.Same(r) {
			equal++
		}
		if got := proved(t, gs, l, x); got != "proved" {
			t.Errorf("by %q %q is not proved to be %q: %s", written(gs), l.Print(), x.Print(), got)
		}
		if again := told(entail.Norm(gs, order, x)); again != x.Canon() {
			t.Errorf("by %q Norm of %q, which is one, is %q", written(gs), x.Print(), again)
		}
	})
	if equal < 1000 {
		t.Errorf("only %d are equal", equal)
	}
}

// F3: more givens prove more, wherever they stand.
func TestMoreGivens(t *testing.T) {
	m := newMaker(4)
	more := 0
	m.some(60000, func(gs []coerce.Given, l, r types.Type) {
		if _, ok, _ := entail.Prove(gs, l, r); !ok {
			return
		}
		with := slices.Insert(slices.Clone(gs), m.Intn(len(gs)+1), coerce.Given{Name: "d", L: m.typ(2), R: m.typ(1)})
		if got := proved(t, with, l, r); got == "proved" {
			more++
		} else if got != "contra" {
			t.Errorf("by %q %q ~ %q is %q", written(with), l.Print(), r.Print(), got)
		}
	})
	if more < 3000 {
		t.Errorf("only %d are proved", more)
	}
}

// F3: what is proved is so whatever types are put in the places of variables, if the givens are so then.
func TestTypesForVariables(t *testing.T) {
	m := newMaker(5)
	solved := 0
	few := []types.Type{con("U"), con("T"), meta(1), con("T", con("U")), con("U", meta(2)), fun(con("U"), con("T")), v("z"), v("a")}
	m.some(20000, func(gs []coerce.Given, l, r types.Type) {
		if _, ok, _ := entail.Prove(gs, l, r); !ok || l.Same(r) {
			return
		}
		for range 20 {
			at := m.put(few)
			if slices.ContainsFunc(gs, func(g coerce.Given) bool { return !at(g.L).Same(at(g.R)) }) {
				continue
			}
			solved++
			if !at(l).Same(at(r)) {
				t.Errorf("by %q %q ~ %q is proved, but not %q ~ %q", written(gs), l.Print(), r.Print(), at(l).Print(), at(r).Print())
			}
		}
	})
	if solved < 500 {
		t.Errorf("only %d are solved", solved)
	}
}

// put makes the closure that puts one of few types in the place of each name.
func (m maker) put(few []types.Type) func(t types.Type) types.Type {
	var us []types.Type
	for range names {
		us = append(us, pick(m, few...))
	}
	return func(t types.Type) types.Type {
		for i, name := range names {
			t = t.Put(name, us[i])
		}
		return t
	}
}

// F1, F2: whatever the types are, what is told is as in the reference, and names that are bound do not matter.
func FuzzProve(f *testing.F) {
	for _, s := range [][6]string{{"a", "T b", "b", "Int", "T a", "T (T Int)"}, {"P x y", "P y z", "x", "x", "x", "z"}, {"a", "?1", "b", "a -> x0", "forall a. a -> b", "forall x0. x0 -> ?1 -> x0"}, {"a", "T a", "a", "forall b. b", "a", "Int"}} {
		f.Add(s[0], s[1], s[2], s[3], s[4], s[5])
	}
	f.Fuzz(func(t *testing.T, a, b, c, d, l, r string) {
		var us []types.Type
		for _, s := range []string{a, b, c, d, l, r} {
			u, e := types.Parse(s)
			// The reference takes too long where types are great, and has names of its own.
			if e != api.OK || len(s) > 60 || strings.Contains(s, constant) {
				return
			}
			us = append(us, u)
		}
		gs := []coerce.Given{given("c", us[0], us[1]), given("d", us[2], us[3])}
		isAsInReference(t, gs, us[0].Free(), us[4], us[5])
		for i := range us[4:] {
			if u, e := types.Parse(us[4+i].Canon()); e == api.OK {
				us[4+i] = u
			}
		}
		isAsInReference(t, gs, us[3].Free(), us[4], us[5])
	})
}
