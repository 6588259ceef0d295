package scope_test

import (
	"math/rand"
	"slices"
	"strconv"
	"testing"

	"savant/api"
	"savant/scope"
	"savant/syntax"
)

// isAsTold asks Free, Cons and Bound for what the reference tells.
func isAsTold(t *testing.T, e syntax.Expr) {
	t.Helper()
	w := writtenIn(e)
	if free, cons, bound := scope.Free(e), scope.Cons(e), scope.Bound(e); !slices.Equal(free, once(freeIn(e))) || !slices.Equal(cons, once(w.cons)) || !slices.Equal(bound, once(w.bound)) {
		t.Errorf("%q: %q, %q, %q, not %q, %q, %q", e.Print(), free, cons, bound, once(freeIn(e)), once(w.cons), once(w.bound))
	}
}

// isCheckedAsTold asks Check for what the reference tells, and answers in which part of the chapter's order that is.
func isCheckedAsTold(t *testing.T, l []syntax.Decl) string {
	t.Helper()
	want, wantError, part := checked(l)
	if name, e := scope.Check(l); name != want || e != wantError {
		t.Errorf("%q: %q, %v, not %q, %v", syntax.Print(l), name, e, want, wantError)
	}
	return part
}

// small are all expressions of at most so many within one another, of few names.
func small(deep int) []syntax.Expr {
	l := []syntax.Expr{v("x"), v("y"), con("K")}
	if deep == 1 {
		return l
	}
	less := small(deep - 1)
	for _, a := range less {
		l = append(l, lam("x", a), lam("y", a), ann(a), choice(a))
		for _, b := range less {
			l = append(l, app(a, b), let("x", a, b), told("y", a, b), choice(a, alt(b, "K", "x", "y")), choice(a, alt(b, "L", "x", "x")), choice(v("y"), alt(a, "L", "y"), alt(b, "K")))
		}
	}
	return l
}

// I1: of all small expressions.
func TestSmallExpressions(t *testing.T) {
	l := small(3)
	for _, e := range l {
		isAsTold(t, e)
	}
	if len(l) < 20000 {
		t.Error(len(l))
	}
}

// I2: of all programs of few declarations.
func TestSmallPrograms(t *testing.T) {
	var pool []syntax.Decl
	for _, s := range []string{
		"data N {}", "data N x x {}", "data M {K : M}", "data M y {L : M; K : M; L : M}", "data Any {K : N}",
		"f : N", "g : M", "f = f", "g = K", "f = L g", `g = \f -> x`, "f = case g of {K x x -> y}", `g = \x -> case x of {L y z -> f}`,
	} {
		pool = append(pool, parsed(t, s)...)
	}
	met := map[string]int{}
	var try func(l []syntax.Decl)
	try = func(l []syntax.Decl) {
		met[isCheckedAsTold(t, l)]++
		for _, d := range pool {
			if len(l) < 4 {
				try(append(l, d))
			}
		}
	}
	try(nil)
	allMet(t, met, 40)
}

// allMet asks whether each part of the chapter's order was met often enough.
func allMet(t *testing.T, met map[string]int, least int) {
	t.Helper()
	for _, part := range []string{"none", "0", "0,0", "0,1", "0,2", "1", "2,0", "2,1", "2,2", "2,3"} {
		if met[part] < least {
			t.Errorf("part %s was met %d times", part, met[part])
		}
	}
}

// maker makes programs, the same ones each time.
type maker struct{ *rand.Rand }

func newMaker(seed int64) maker { return maker{rand.New(rand.NewSource(seed))} }

func pick[T any](m maker, l ...T) T { return l[m.Intn(len(l))] }

func some[T any](m maker, most int, one func() T) []T {
	var l []T
	for range m.Intn(most + 1) {
		l = append(l, one())
	}
	return l
}

func (m maker) variable() string { return pick(m, "a", "b", "c", "d", "e", "f", "g") }

func (m maker) con() string { return pick(m, "J", "K", "L", "M", "N") }

func (m maker) expr(room int) syntax.Expr {
	if room == 0 || m.Intn(7) == 0 {
		return pick(m, v(m.variable()), con(m.con()))
	}
	one := func() syntax.Expr { return m.expr(room - 1) }
	switch m.Intn(7) {
	case 0:
		return lam(m.variable(), one())
	case 1:
		return let(m.variable(), one(), one())
	case 2:
		return told(m.variable(), one(), one())
	case 3:
		return choice(one(), some(m, 3, func() syntax.Alt { return alt(one(), m.con(), some(m, 3, m.variable)...) })...)
	case 4:
		return ann(one())
	}
	return app(one(), one())
}

// I1: of many expressions.
func TestManyExpressions(t *testing.T) {
	m := newMaker(1)
	for i := range 20000 {
		isAsTold(t, m.expr(i%6))
	}
}

// program is one of whose names few are as they may not be: each of its declarations has another name, but that a few are changed, and so it is with what its bindings use.
func (m maker) program() []syntax.Decl {
	binds, cons := []string{}, []string{}
	var l []syntax.Decl
	for i := range 1 + m.Intn(3) {
		d := syntax.Decl{Kind: api.DeclData, Name: m.odd("D"+strconv.Itoa(i), "D0", "Any"), Params: m.params()}
		for range m.Intn(3) {
			cons = append(cons, "C"+strconv.Itoa(len(cons)))
			d.Cons = append(d.Cons, syntax.Con{Name: m.odd(cons[len(cons)-1], "C0", "C1", "D0")})
		}
		l = append(l, d)
	}
	for i := range 1 + m.Intn(3) {
		binds = append(binds, "f"+strconv.Itoa(i))
	}
	for _, name := range binds {
		l = append(l, syntax.Decl{Kind: api.DeclBind, Name: m.odd(name, "f0", "f1"), E: m.closed(m.Intn(5), binds, append(cons, "C0"), 0)})
		if m.Intn(3) == 0 {
			l = append(l, syntax.Decl{Kind: api.DeclSig, Name: m.odd(name, "f0", "f3")})
		}
	}
	m.Shuffle(len(l), func(i, j int) { l[i], l[j] = l[j], l[i] })
	return l
}

// odd is a name, or seldom one of others.
func (m maker) odd(name string, others ...string) string {
	if m.Intn(25) == 0 {
		return pick(m, others...)
	}
	return name
}

func (m maker) params() []string {
	return []string{"a", m.odd("b", "a"), m.odd("c", "a", "b")}[:m.Intn(4)]
}

// closed is an expression that uses what there is, but seldom.
func (m maker) closed(room int, vars, cons []string, around int) syntax.Expr {
	if room == 0 || m.Intn(7) == 0 {
		return pick(m, v(m.odd(pick(m, vars...), "x0", "x1", "f2")), con(m.odd(pick(m, cons...), "C1", "K")))
	}
	name := m.odd("x"+strconv.Itoa(around), "f0", "f1", "x0")
	one := func(bound ...string) syntax.Expr {
		return m.closed(room-1, slices.Concat(vars, bound), cons, around+len(bound))
	}
	switch m.Intn(6) {
	case 0:
		return lam(name, one(name))
	case 1:
		return let(name, one(), one(name))
	case 2:
		return choice(one(), some(m, 2, func() syntax.Alt {
			bound := []string{name, m.odd("x"+strconv.Itoa(around+1), name)}[:m.Intn(3)]
			return alt(one(bound...), m.odd(pick(m, cons...), "K"), bound...)
		})...)
	case 3:
		return ann(one())
	}
	return app(one(), one())
}

// I2, I3: of many programs; what is free in those that pass is declared, what is bound is not; and other names for what is bound change nothing.
func TestManyPrograms(t *testing.T) {
	m := newMaker(2)
	met := map[string]int{}
	for range 40000 {
		l := m.program()
		part := isCheckedAsTold(t, l)
		met[part]++
		if part == "none" {
			isDeclared(t, l)
		}
		if part != "2,0" && part != "2,1" {
			news := 0
			isSameRenamed(t, l, func(around int) string { return "by_depth" + strconv.Itoa(around) })
			isSameRenamed(t, l, func(int) string { news++; return "by_place" + strconv.Itoa(news) })
		}
	}
	allMet(t, met, 250)
}

func isDeclared(t *testing.T, l []syntax.Decl) {
	t.Helper()
	binds, cons := have(l, api.DeclBind), consOf(l)
	for _, d := range l {
		for _, name := range scope.Free(d.E) {
			if !slices.Contains(binds, name) {
				t.Errorf("%q: %s is free", syntax.Print(l), name)
			}
		}
		for _, name := range scope.Bound(d.E) {
			if slices.Contains(binds, name) {
				t.Errorf("%q: %s is bound", syntax.Print(l), name)
			}
		}
		for _, name := range scope.Cons(d.E) {
			if !slices.Contains(cons, name) {
				t.Errorf("%q: %s is no constructor", syntax.Print(l), name)
			}
		}
	}
}

func isSameRenamed(t *testing.T, l []syntax.Decl, name func(around int) string) {
	t.Helper()
	others := slices.Clone(l)
	for i, d := range others {
		others[i].E = renamed(d.E, nil, 0, name)
		if a, b := scope.Free(d.E), scope.Free(others[i].E); !slices.Equal(a, b) {
			t.Errorf("in %q %q are free, in %q %q", d.E.Print(), a, others[i].E.Print(), b)
		}
	}
	a, e := scope.Check(l)
	b, e2 := scope.Check(others)
	if a != b || e != e2 {
		t.Errorf("%q: %q, %v; %q: %q, %v", syntax.Print(l), a, e, syntax.Print(others), b, e2)
	}
}

// I1, I2: whatever the program is, what is told of it is what the chapter says.
func FuzzCheck(f *testing.F) {
	for _, s := range []string{"", "data N {Z : N}; f = Z; f = Z", "f : N", `f = \f -> f`, "f = let g = f in h", "f = case K of {K x x -> K}", "data P a a {}; data Any {}", `data N {Z : N; S : N -> N}; f : N -> N; f = \x -> case x of {Z -> g x; S y -> let z = f y in S z}; g = \x -> f x`} {
		f.Add(s)
	}
	f.Fuzz(func(t *testing.T, s string) {
		l, e := syntax.Parse(s)
		// The reference reads what is printed, which must not be too long.
		if e != api.OK || len(syntax.Print(l)) > api.MaxInput {
			return
		}
		isCheckedAsTold(t, l)
		for _, d := range l {
			isAsTold(t, d.E)
		}
	})
}
