package unify_test

import (
	"slices"
	"testing"

	"savant/api"
	"savant/types"
	"savant/unify"
)

func meta(n int) types.Type { return types.Type{Kind: api.Meta, N: n} }

func con(name string, args ...types.Type) types.Type {
	return types.Type{Kind: api.Con, Name: name, Args: args}
}

// D1: each call ends with types of 2^16 parts within one another, in good time.
func TestDeepEnds(t *testing.T) {
	const deep = 1 << 16
	names := []string{"a", "b", "c"}
	within, left, forAlls, others := con("Int"), meta(1), meta(1), meta(1)
	for i := range deep - 1 {
		within = con("T", meta(1), within, meta(2))
		left = types.Type{Kind: api.Fun, Args: []types.Type{left, {Kind: api.Var, Name: "a"}}}
		forAlls = types.Type{Kind: api.All, Name: names[i%3], Args: []types.Type{con("T", types.Type{Kind: api.Var, Name: names[i%3]}, forAlls)}}
		others = types.Type{Kind: api.All, Name: names[i%2], Args: []types.Type{con("T", types.Type{Kind: api.Var, Name: names[i%2]}, others)}}
	}
	for _, x := range []types.Type{within, left, forAlls} {
		if got := told(unify.Unify([]unify.Eq{{L: x, R: x}})); got != "" {
			t.Error("deep: the same: " + got)
		}
		y := unify.Apply([]unify.Known{{Meta: 1, T: con("U")}}, x)
		if got := told(unify.Unify([]unify.Eq{{L: x, R: y}})); got != "?1: U" {
			t.Error("deep: with U in it: " + got)
		}
	}
	if got := told(unify.Unify([]unify.Eq{{L: forAlls, R: others}})); got != "" {
		t.Error("deep: other names: " + got)
	}
	if got := told(unify.Unify([]unify.Eq{{L: meta(1), R: left}})); got != "occurs" {
		t.Error("deep: " + got)
	}
	if l, e := unify.Unify([]unify.Eq{{L: meta(3), R: left}, {L: meta(3), R: meta(4)}, {L: meta(1), R: con("U")}}); e != api.OK || len(l) != 3 || l[2].T.Depth() != deep || len(l[1].T.Metas()) != 0 {
		t.Error("deep: not known", e)
	}
}

// twice are equations by which each unknown, from first on, is two of the one ahead of it, so that types double each time. Each equation is written as step such doublings, so that some unknowns are told only within.
func twice(first, last, step int) []unify.Eq {
	var l []unify.Eq
	for n := step; n <= last; n++ {
		x := meta(first + n - step)
		for range step {
			x = con("T", x, x)
		}
		l = append(l, unify.Eq{L: meta(first + n), R: x})
	}
	return l
}

// D1: types that are great with what is known cost no more than what was written.
func TestGreatTypesEnd(t *testing.T) {
	const n = 90
	begin := []unify.Eq{{L: meta(0), R: meta(1000)}, {L: meta(1), R: meta(1001)}, {L: meta(2), R: meta(1002)}}
	end := []unify.Eq{{L: meta(n), R: meta(1000 + n)}, {L: con("Int"), R: con("U")}}
	for _, step := range []int{1, 2, 3} {
		known := append(twice(0, n, step), twice(1000, n, step)...)
		for _, l := range [][]unify.Eq{slices.Concat(known, begin, end), slices.Concat(known, end), slices.Concat(begin, known, end)} {
			if got := told(unify.Unify(l)); got != "clash" {
				t.Errorf("step %d: %s", step, got)
			}
		}
	}
	// What stands against an unknown is here always something written, never an unknown alone.
	l := slices.Concat(twice(0, n, 2), twice(1000, n, 2), []unify.Eq{{L: meta(n), R: con("T", meta(1000+n-1), meta(1000+n-1))}}, end[1:])
	if got := told(unify.Unify(l)); got != "clash" {
		t.Error("one off: " + got)
	}
	if got := told(unify.Unify(append(twice(0, n, 1), unify.Eq{L: meta(0), R: meta(n)}))); got != "occurs" {
		t.Error("within itself: " + got)
	}
}

// D1: likewise what is told, where it is not too great.
func TestGreatAnswer(t *testing.T) {
	const n = 14
	l, e := unify.Unify(append(twice(0, n, 1), unify.Eq{L: meta(0), R: con("Int")}))
	if e != api.OK || len(l) != n+1 {
		t.Fatal(len(l), e)
	}
	for i, k := range l {
		if k.Meta != i || k.T.Depth() != i+1 || len(k.T.Metas()) != 0 || i > 0 && !k.T.Same(con("T", l[i-1].T, l[i-1].T)) {
			t.Errorf("?%d", k.Meta)
		}
	}
}

// D1: many unknowns that are one another, in whichever order.
func TestManyUnknowns(t *testing.T) {
	const n = 3000
	for way, of := range map[string]func(i int) (int, int){
		"up":        func(i int) (int, int) { return i, i + 1 },
		"down":      func(i int) (int, int) { return n - i, n - i - 1 },
		"turned":    func(i int) (int, int) { return i + 1, i },
		"scattered": func(i int) (int, int) { j := i * 7 % n; return j, j + 1 },
	} {
		var l []unify.Eq
		for i := range n {
			x, y := of(i)
			l = append(l, unify.Eq{L: meta(x), R: meta(y)})
		}
		known, e := unify.Unify(l)
		if e != api.OK || len(known) != n {
			t.Fatal(way, len(known), e)
		}
		for i, k := range known {
			if k.Meta != i+1 || !k.T.Same(meta(0)) {
				t.Fatal(way, k)
			}
		}
	}
}
