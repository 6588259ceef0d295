package solve_test

import (
	"math/rand"
	"slices"
	"strconv"
	"strings"
	"testing"

	"savant/api"
	"savant/coerce"
	"savant/entail"
	"savant/solve"
	"savant/types"
	"savant/unify"
)

// maker makes problems, the same ones each time.
type maker struct {
	*rand.Rand
	wild     bool // whether now and then something stands where it must not
	names    []string
	unknowns []int
	givens   int
}

func newMaker(seed int64) *maker { return &maker{Rand: rand.New(rand.NewSource(seed))} }

func pick[T any](m *maker, l ...T) T { return l[m.Intn(len(l))] }

var boundNames = strings.Fields("a b d e f g h i j k l m n o p q")

const manyUnknowns = 20

// scope is what may stand in a type, and the givens there.
type scope struct {
	names    []string
	unknowns []int
	givens   []coerce.Given
}

func (s scope) with(names []string, unknowns []int, givens ...coerce.Given) scope {
	return scope{names: slices.Concat(s.names, names), unknowns: slices.Concat(s.unknowns, unknowns), givens: slices.Concat(s.givens, givens)}
}

// leaf is a type without others in it. Constants are ahead of names that are bound by their bytes, and behind them.
func (m *maker) leaf(s scope) types.Type {
	if m.wild && m.Intn(60) == 0 {
		return pick(m, v(pick(m, boundNames...)), meta(m.Intn(manyUnknowns)))
	}
	switch n := m.Intn(10); {
	case n < 4 && len(s.unknowns) > 0:
		return meta(pick(m, s.unknowns...))
	case n < 7 && len(s.names) > 0:
		return v(pick(m, s.names...))
	}
	return pick(m, con("Int"), con("Int"), con("U"), v("x"), v("a0"))
}

func (m *maker) typ(s scope, room int) types.Type {
	if room == 0 || m.Intn(3) == 0 {
		return m.leaf(s)
	}
	switch m.Intn(3) {
	case 0:
		return con("T", m.typ(s, room-1))
	case 1:
		return con("P", m.typ(s, room-1), m.typ(s, room-1))
	}
	return fun(m.typ(s, room-1), m.typ(s, room-1))
}

// poly are types that now and then have for alls in them.
func (m *maker) poly(s scope, room int) types.Type {
	if room == 0 || m.Intn(12) > 0 {
		return m.typ(s, room)
	}
	name := pick(m, "x", "a", "u")
	t := all(name, m.poly(s.with([]string{name}, nil), room-1))
	if m.Intn(2) == 0 {
		return con("T", t)
	}
	return t
}

// like is t with others at some places, that are often equal by the givens.
func (m *maker) like(s scope, t types.Type) types.Type {
	for _, g := range s.givens {
		if g.L.Same(t) && m.Intn(2) == 0 {
			return g.R
		}
		if g.R.Same(t) && m.Intn(2) == 0 {
			return g.L
		}
	}
	switch {
	case m.Intn(20) == 0:
		return m.typ(s, 1)
	case m.Intn(6) == 0 && len(s.unknowns) > 0:
		return meta(pick(m, s.unknowns...))
	case t.Kind == api.All:
		name := pick(m, "u", "w")
		return all(name, m.like(s.with([]string{name}, nil), t.Args[0].Put(t.Name, v(name))))
	}
	t.Args = slices.Clone(t.Args)
	for i, a := range t.Args {
		t.Args[i] = m.like(s, a)
	}
	return t
}

func (m *maker) problem(s scope, room int) solve.Problem {
	var p solve.Problem
	for range m.Intn(3) {
		p.New = append(p.New, m.unknown())
	}
	s = s.with(nil, p.New)
	for range m.Intn(3) {
		w := solve.Want{L: m.poly(s, 2)}
		w.R = m.like(s, w.L)
		if m.Intn(4) == 0 && len(s.unknowns) > 0 {
			w.L = meta(pick(m, s.unknowns...))
		}
		if m.Intn(2) == 0 {
			w.L, w.R = w.R, w.L
		}
		p.Wants = append(p.Wants, w)
	}
	if room > 0 {
		for range m.Intn(3) {
			p.Inner = append(p.Inner, m.inner(s, room-1))
		}
	}
	return p
}

func (m *maker) inner(s scope, room int) solve.Inner {
	var in solve.Inner
	for range m.Intn(3) {
		in.Names = append(in.Names, m.name())
	}
	s = s.with(in.Names, nil)
	if m.Intn(2) == 0 {
		for range 1 + m.Intn(2) {
			in.Givens = append(in.Givens, m.given(s))
		}
	}
	in.P = m.problem(s.with(nil, nil, in.Givens...), room)
	return in
}

func (m *maker) given(s scope) coerce.Given {
	m.givens++
	g := coerce.Given{Name: "c" + strconv.Itoa(m.givens), L: m.typ(s, 1), R: m.typ(s, 1)}
	if len(s.names) > 0 && m.Intn(3) > 0 {
		g.L = v(pick(m, s.names...))
	}
	if m.wild && m.Intn(20) == 0 {
		g.R = all("x", g.R)
	}
	if m.wild && m.Intn(60) == 0 {
		g.Name = "c1"
	}
	return g
}

// name is one that is bound nowhere else.
func (m *maker) name() string {
	if m.wild && m.Intn(60) == 0 || len(m.names) == 0 {
		return pick(m, boundNames...)
	}
	name := m.names[0]
	m.names = m.names[1:]
	return name
}

func (m *maker) unknown() int {
	if m.wild && m.Intn(60) == 0 || len(m.unknowns) == 0 {
		return m.Intn(manyUnknowns)
	}
	n := m.unknowns[0]
	m.unknowns = m.unknowns[1:]
	return n
}

// whole is a problem that stands within none.
func (m *maker) whole(room int) solve.Problem {
	m.names = slices.Clone(boundNames)
	m.unknowns, m.givens = m.Perm(manyUnknowns), 0
	m.Shuffle(len(m.names), func(i, j int) { m.names[i], m.names[j] = m.names[j], m.names[i] })
	return m.problem(scope{}, room)
}

// G2: of many problems what is told is as in the reference, and each answer is met often.
func TestManyProblems(t *testing.T) {
	met := map[string]int{}
	m := newMaker(1)
	for i := range 40000 {
		m.wild = i%5 == 0
		p := m.whole(i % 4)
		got, want := told(solve.Solve(p)), told(newReference(p).solve())
		if got != want {
			t.Errorf("of %q is told %q, not %q", p.Print(), got, want)
		}
		met[kindOf(got)]++
		if _, e := solve.Solve(p); e == api.OK && len(p.Inner) > 0 && got != "" {
			met["inner"]++
		}
	}
	for _, kind := range []string{"", "known", "inner", "scope", "poly", "stuck", "contra"} {
		if met[kind] < 100 {
			t.Errorf("%q is met %d times", kind, met[kind])
		}
	}
}

// kindOf is what was told, but which types it was.
func kindOf(told string) string {
	switch told {
	case "", "scope", "poly", "stuck", "contra":
		return told
	}
	return "known"
}

// G3: what is told does not hang on the order of items, nor on which side comes first.
func TestAnyOrder(t *testing.T) {
	met := map[string]int{}
	m := newMaker(2)
	for i := range 20000 {
		p := m.whole(1 + i%3)
		want := told(solve.Solve(p))
		met[kindOf(want)]++
		for range 3 {
			q := m.shuffled(p)
			if got := told(solve.Solve(q)); got != want {
				t.Errorf("of %q is told %q, but of %q %q", p.Print(), want, q.Print(), got)
			}
		}
	}
	if met["known"] < 1500 || met["stuck"] < 1500 || met["contra"] < 1500 {
		t.Error(met)
	}
}

// shuffled is p with its items in another order.
func (m *maker) shuffled(p solve.Problem) solve.Problem {
	q := solve.Problem{New: slices.Clone(p.New), Wants: slices.Clone(p.Wants)}
	shuffle(m, q.New)
	shuffle(m, q.Wants)
	for i, w := range q.Wants {
		if m.Intn(2) == 0 {
			q.Wants[i] = solve.Want{L: w.R, R: w.L}
		}
	}
	for _, in := range p.Inner {
		in.P, in.Givens = m.shuffled(in.P), slices.Clone(in.Givens)
		shuffle(m, in.Givens)
		q.Inner = append(q.Inner, in)
	}
	shuffle(m, q.Inner)
	return q
}

func shuffle[T any](m *maker, l []T) {
	m.Shuffle(len(l), func(i, j int) { l[i], l[j] = l[j], l[i] })
}

// G3: what is told solves the problem: chapter 6 proves what is wanted, by the givens with what is told.
func TestWhatIsToldHolds(t *testing.T) {
	m := newMaker(3)
	proved := 0
	for i := range 40000 {
		p := m.whole(1 + i%3)
		l, e := solve.Solve(p)
		if e != api.OK {
			continue
		}
		for _, q := range newReference(p).places {
			for _, w := range q.P.Wants {
				gs := givensWith(l, q)
				c, ok, e := entail.Prove(gs, unify.Apply(l, w.L), unify.Apply(l, w.R))
				if !ok || e != api.OK {
					t.Errorf("of %q is told %q, but by %v %q ~ %q is not proved: %v", p.Print(), told(l, api.OK), gs, w.L.Print(), w.R.Print(), e)
				}
				if _, _, e := coerce.Says(gs, c); e == api.OK && len(gs) > 0 {
					proved++
				}
			}
		}
	}
	if proved < 1000 {
		t.Error(proved)
	}
}

// givensWith are the givens at a problem in which no unknown is, with what is told.
func givensWith(l []unify.Known, p *refPlace) []coerce.Given {
	var gs []coerce.Given
	for _, q := range p.around() {
		for _, g := range q.Givens {
			g.L, g.R = unify.Apply(l, g.L), unify.Apply(l, g.R)
			if len(g.L.Metas())+len(g.R.Metas()) == 0 {
				gs = append(gs, g)
			}
		}
	}
	return gs
}

// G3, T5: what is told is the most general: whatever types else solve the problem solve what is told.
func TestMostGeneral(t *testing.T) {
	m := newMaker(4)
	solved := 0
	for i := range 30000 {
		p := m.whole(1 + i%2)
		x := newReference(p)
		l, e := x.solve()
		if e != api.OK || len(x.homes) == 0 {
			continue
		}
		for range 10 {
			if other := m.other(x, l); isSolvedBy(x, other) {
				solved++
				isInstance(t, p, x, other)
			}
		}
	}
	if solved < 5000 {
		t.Errorf("only %d are solved", solved)
	}
}

// other are types for all unknowns, that may stand at their homes: now and then so as was told, with others in the places of unknowns that are left.
func (m *maker) other(x *reference, l []unify.Known) []unify.Known {
	var some []unify.Known
	for _, n := range slices.Sorted(keys(x.homes)) {
		var s scope
		for _, q := range x.homes[n].around() {
			s.names = append(s.names, q.Names...)
		}
		some = append(some, unify.Known{Meta: n, T: m.typ(s, m.Intn(2))})
	}
	if m.Intn(3) == 0 {
		return some
	}
	var as []unify.Known
	for _, k := range some {
		as = append(as, unify.Known{Meta: k.Meta, T: unify.Apply(some, unify.Apply(l, meta(k.Meta)))})
		if m.Intn(8) == 0 {
			as[len(as)-1] = k
		}
	}
	return as
}

func keys[K comparable, V any](m map[K]V) func(yield func(K) bool) {
	return func(yield func(K) bool) {
		for k := range m {
			if !yield(k) {
				return
			}
		}
	}
}

// isSolvedBy tells whether types for all unknowns solve a problem, and no givens contradict one another then.
func isSolvedBy(x *reference, l []unify.Known) bool {
	for _, q := range x.places {
		gs := givensWith(l, q)
		if _, e := entail.Norm(gs, nil, con("Int")); e != api.OK {
			return false
		}
		for _, w := range q.P.Wants {
			if _, ok, _ := entail.Prove(gs, unify.Apply(l, w.L), unify.Apply(l, w.R)); !ok {
				return false
			}
		}
	}
	return true
}

// isInstance asks whether other types that solve the problem make each unknown equal to what is known of it.
func isInstance(t *testing.T, p solve.Problem, x *reference, other []unify.Known) {
	t.Helper()
	for n, home := range x.homes {
		known := x.filled(meta(n))
		if _, ok, _ := entail.Prove(givensWith(other, home), unify.Apply(other, meta(n)), unify.Apply(other, known)); !ok {
			t.Errorf("of %q is known ?%d = %q, but %q solves it", p.Print(), n, known.Print(), told(other, api.OK))
		}
	}
}

// G3: without inner problems what is told is as by chapter 4.
func TestWithoutInnerProblems(t *testing.T) {
	m := newMaker(5)
	met := map[string]int{}
	for range 20000 {
		p := m.whole(0)
		p.New = []int{0, 1, 2, 3}
		p.Wants = nil
		var l []unify.Eq
		for range 1 + m.Intn(3) {
			s := scope{unknowns: p.New}
			left := m.poly(s, 3)
			l = append(l, unify.Eq{L: left, R: m.like(s, left)})
			p.Wants = append(p.Wants, solve.Want(l[len(l)-1]))
		}
		known, e := unify.Unify(l)
		if e != api.OK {
			e = api.ErrStuck
		}
		got, want := told(solve.Solve(p)), told(known, e)
		if got != want {
			t.Errorf("of %q is told %q, not %q", p.Print(), got, want)
		}
		met[kindOf(got)]++
	}
	if met["known"] < 2000 || met["stuck"] < 2000 || met[""] < 200 {
		t.Error(met)
	}
}

// T1: how names are called that are bound, by for alls or by problems, and givens, does not matter.
func TestNamesDoNotMatter(t *testing.T) {
	m := newMaker(6)
	known := 0
	for range 10000 {
		p := m.whole(2)
		q := withOtherNames(p)
		l, e := solve.Solve(q)
		for i, k := range l {
			for _, name := range boundNames {
				k.T = k.T.Put(otherName(name), v(name))
			}
			l[i] = k
		}
		got, want := told(l, e), told(solve.Solve(p))
		if got != want {
			t.Errorf("of %q is told %q, but of %q %q", p.Print(), want, q.Print(), got)
		}
		if kindOf(want) == "known" {
			known++
		}
	}
	if known < 500 {
		t.Error(known)
	}
}

// otherName makes names whose bytes are in the other order.
func otherName(name string) string {
	return "o_" + string('z'-(name[0]-'a'))
}

// withOtherNames is p with other names that are bound, and of givens.
func withOtherNames(p solve.Problem) solve.Problem {
	q := solve.Problem{New: p.New}
	for _, w := range p.Wants {
		q.Wants = append(q.Wants, solve.Want{L: otherType(w.L), R: otherType(w.R)})
	}
	for _, in := range p.Inner {
		k := solve.Inner{P: withOtherNames(in.P)}
		for _, name := range in.Names {
			k.Names = append(k.Names, otherName(name))
		}
		for _, g := range in.Givens {
			k.Givens = append(k.Givens, coerce.Given{Name: "o" + g.Name, L: otherType(g.L), R: otherType(g.R)})
		}
		q.Inner = append(q.Inner, k)
	}
	return q
}

func otherType(t types.Type) types.Type {
	if u, e := types.Parse(t.Canon()); e == api.OK {
		t = u
	}
	for _, name := range boundNames {
		t = t.Put(name, v(otherName(name)))
	}
	return t
}
