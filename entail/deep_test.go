package entail_test

import (
	"strconv"
	"testing"

	"savant/api"
	"savant/coerce"
	"savant/entail"
	"savant/types"
)

const deep = 1 << 16

// within are types of so many parts within one another, of which x stands deepest.
func within(x types.Type, parts int) map[string]types.Type {
	cons, funs := x, x
	for range parts - 1 {
		cons, funs = con("T", v("k"), cons, meta(2)), fun(funs, v("k"))
	}
	return map[string]types.Type{"constructors": cons, "functions": funs}
}

// behind is x behind for alls, so many parts within one another, each of which has what it binds, k and x.
func behind(x types.Type, parts int, names ...string) types.Type {
	t := x
	for i := range parts / 2 {
		name := names[i%len(names)]
		t = all(name, con("T", v(name), v("k"), x, t))
	}
	return t
}

func given(name string, l, r types.Type) coerce.Given { return coerce.Given{Name: name, L: l, R: r} }

// isEqual asks for a proof that l is r, and for one Norm of both.
func isEqual(t *testing.T, what string, gs []coerce.Given, l, r types.Type) {
	t.Helper()
	c, ok, e := entail.Prove(gs, l, r)
	if !ok || e != api.OK {
		t.Errorf("%s: %v, %v", what, ok, e)
		return
	}
	if x, y, e := coerce.Says(gs, c); e != api.OK || !x.Same(l) || !y.Same(r) {
		t.Errorf("%s: the proof says something else: %v", what, e)
	}
	x, _ := entail.Norm(gs, nil, l)
	y, _ := entail.Norm(gs, nil, r)
	if !x.Same(y) {
		t.Errorf("%s: two Norms", what)
	}
}

// F1, F2: each call ends with types of 2^16 parts within one another, in good time.
func TestDeepEnds(t *testing.T) {
	a, b, u := v("a"), v("b"), con("U")
	for what, x := range within(a, deep) {
		y := within(b, deep)[what]
		isEqual(t, what+": taken apart", []coerce.Given{given("c", x, y)}, a, b)
		isEqual(t, what+": put together", []coerce.Given{given("c", a, b)}, x, y)
		if got := proved(t, []coerce.Given{given("c", a, v("d"))}, x, y); got != "not" {
			t.Errorf("%s: %s", what, got)
		}
		for _, gs := range [][]coerce.Given{{given("c", a, x)}, {given("c", x, y), given("d", a, u), given("e", b, fun(u, u))}} {
			if got := told(entail.Norm(gs, nil, u)); got != "contra" {
				t.Errorf("%s: %s", what, got)
			}
		}
	}
}

// F1, F2: likewise with types in which there are for alls.
func TestDeepForAllsEnd(t *testing.T) {
	a, b := v("a"), v("b")
	gs := []coerce.Given{given("c", a, b), given("d", v("k"), con("U", a))}
	isEqual(t, "one given", gs[:1], behind(a, deep/8, "x", "y"), behind(b, deep/8, "y", "z"))
	isEqual(t, "two givens", gs, behind(a, deep, "x", "y"), behind(b, deep, "z", "y", "x0"))
	for what, other := range map[string]types.Type{
		"less":         behind(b, deep/8-2, "x", "y"),
		"a is bound":   behind(b, deep/8, "x", "a", "b"),
		"another name": behind(v("d"), deep/8, "x", "y"),
	} {
		if got := proved(t, gs, behind(a, deep/8, "x", "y"), other); got != "not" {
			t.Error(what, got)
		}
	}
}

// twice are givens by which each name, from the second one on, is two of the one ahead of it, so that types double each time.
func twice(letter string, last int) []coerce.Given {
	var l []coerce.Given
	for n := range last {
		x, y := v(letter+strconv.Itoa(n)), v(letter+strconv.Itoa(n+1))
		l = append(l, given("c_"+letter+strconv.Itoa(n), y, fun(x, x)))
	}
	return l
}

// F1, F2: types that are great with what variables stand for cost no more than what was written.
func TestGreatTypesEnd(t *testing.T) {
	const n = 90
	first, last := []types.Type{v("a0"), v("b0")}, []types.Type{v("a" + strconv.Itoa(n)), v("b" + strconv.Itoa(n))}
	for _, gs := range [][]coerce.Given{append(twice("a", n), twice("b", n)...), append(twice("b", n), twice("a", n)...)} {
		if _, ok, e := entail.Prove(gs, last[0], last[1]); ok || e != api.OK {
			t.Error("unlike at the begin:", ok, e)
		}
		for _, g := range []coerce.Given{given("d", first[0], first[1]), given("d", last[1], last[0])} {
			for _, with := range [][]coerce.Given{append([]coerce.Given{g}, gs...), append(gs[:len(gs):len(gs)], g)} {
				for _, x := range [][]types.Type{first, last, {fun(last[0], first[1]), fun(last[1], first[0])}} {
					if _, ok, e := entail.Prove(with, x[0], x[1]); !ok || e != api.OK {
						t.Error("like one another:", ok, e)
					}
				}
				isGreat(t, with, last[1], n)
			}
		}
		for _, g := range []coerce.Given{given("d", first[0], last[0]), given("d", last[0], v("b"+strconv.Itoa(n-1)))} {
			if got := told(entail.Norm(append(gs[:len(gs):len(gs)], g, given("e", first[0], first[1])), nil, first[0])); got != "contra" {
				t.Error("within itself:", got)
			}
		}
	}
}

// isGreat asks whether Norm of t is functions, so many within one another, of the variable a0.
func isGreat(t *testing.T, gs []coerce.Given, x types.Type, parts int) {
	t.Helper()
	u, e := entail.Norm(gs, nil, x)
	for i := range parts {
		if e != api.OK || u.Kind != api.Fun || len(u.Args) != 2 {
			t.Fatal(i, e)
		}
		u = u.Args[i%2]
	}
	if got := told(u, e); got != "a0" {
		t.Error(got)
	}
}

// F2: where proofs have the same ones in them at many places, these are made once.
func TestGreatProofsEnd(t *testing.T) {
	const n = 60
	name := func(letter string, i int) types.Type { return v(letter + strconv.Itoa(i)) }
	both := func(x, y string, i int) types.Type { return con("P", name(x, i), name(y, i)) }
	gs := []coerce.Given{given("c", both("p", "q", 0), both("q", "r", 0))}
	for i := range n {
		number := strconv.Itoa(i)
		gs = append(gs, given("d"+number, name("p", i), both("p", "q", i+1)), given("e"+number, name("r", i), both("q", "r", i+1)))
	}
	for i := range 6 {
		isEqual(t, "short", gs[:2*i+1], name("p", i), name("r", i))
	}
	if _, ok, e := entail.Prove(gs, name("p", n), name("r", n)); !ok || e != api.OK {
		t.Error(ok, e)
	}
}

// depth is how many coercions stand within one another in c.
func depth(c coerce.Co) int {
	deepest := 0
	for _, k := range c.Kids {
		deepest = max(deepest, depth(k))
	}
	return 1 + deepest
}

// F1, F2: many variables that are one another, in whichever order; proofs are no deeper than they must be.
func TestManyVariables(t *testing.T) {
	const n = 10000
	name := func(i int) types.Type { return v("n" + strconv.Itoa(i)) }
	for way, of := range map[string]func(i int) (int, int){
		"up":        func(i int) (int, int) { return i, i + 1 },
		"down":      func(i int) (int, int) { return n - i, n - i - 1 },
		"turned":    func(i int) (int, int) { return i + 1, i },
		"scattered": func(i int) (int, int) { j := i * 7 % n; return j, j + 1 },
		"star":      func(i int) (int, int) { return n / 2, (n/2 + 1 + i) % (n + 1) },
	} {
		var gs []coerce.Given
		for i := range n {
			x, y := of(i)
			gs = append(gs, given("c"+strconv.Itoa(i), name(x), name(y)))
		}
		isEqual(t, way, gs, name(0), name(n))
		isEqual(t, way, gs, con("T", name(n), name(n/2)), con("T", name(n/3), name(0)))
		c, _, _ := entail.Prove(gs, name(0), name(n))
		if depth(c) > 17 {
			t.Error(way, depth(c))
		}
		if got := told(entail.Norm(gs, []string{"x", "n77", "n7"}, name(n))); got != "n77" {
			t.Error(way, got)
		}
	}
}

// F1, F2: likewise of what stands side by side.
func TestWideTypes(t *testing.T) {
	const n = 20000
	var names []types.Type
	for i := range n + 1 {
		names = append(names, v("n"+strconv.Itoa(i)))
	}
	gs := []coerce.Given{given("c", con("T", names[1:]...), con("T", names[:n]...))}
	isEqual(t, "all", gs, con("T", names[1:]...), con("T", names[:n]...))
	isEqual(t, "most", gs, con("P", names[1:]...), con("P", names[:n]...))
	isEqual(t, "two", gs, names[0], names[n])
	for i, x := range names {
		gs = append(gs, given("d"+strconv.Itoa(i), x, con("U", v("m"+strconv.Itoa(i)))))
	}
	isEqual(t, "what they stand for", gs, v("m0"), v("m"+strconv.Itoa(n)))
}
