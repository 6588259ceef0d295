package sharing_test

import (
	"reflect"
	"slices"
	"strconv"
	"testing"

	"savant/api"
	"savant/sharing"
	"savant/types"
)

func v(name string) types.Type { return types.Type{Kind: api.Var, Name: name} }

func parsed(t *testing.T, s string) types.Type {
	t.Helper()
	x, e := types.Parse(s)
	if e != api.OK {
		t.Fatalf("Parse(%q): %v", s, e)
	}
	return x
}

// lay is the node of a text's type, with nothing in the places of names.
func lay(t *testing.T, p sharing.Pool, s string) *sharing.Node {
	t.Helper()
	return p.Lay(parsed(t, s), nil)
}

// Types that are the same are one node, and others are not.
func TestLay(t *testing.T) {
	groups := [][]string{
		{"a"}, {"b"}, {"?1"}, {"?2"}, {"A"}, {"T a"}, {"T b"}, {"T a b"}, {"T (T a)"}, {"U a"}, {"a -> b"}, {"b -> a"}, {"T a a"},
		{"forall a. a", "forall b. b"}, {"forall a. b", "forall c. b"}, {"forall a b. a", "forall b a. b"}, {"forall a b. b", "forall a a. a"},
		{"forall a. a -> forall a. a", "forall b. b -> forall a. a"}, {"forall a. a -> forall b. a"}, {"(forall a. a) -> a", "(forall b. b) -> a"}, {"forall a. (forall b. b) -> a"},
	}
	p := sharing.Pool{}
	for i, g := range groups {
		for j, h := range groups {
			for _, s := range g {
				for _, u := range h {
					if (lay(t, p, s) == lay(t, p, u)) != (i == j) {
						t.Errorf("%q and %q", s, u)
					}
				}
			}
		}
	}
}

// What a node has is seen, but for names that are bound.
func TestNode(t *testing.T) {
	p := sharing.Pool{}
	x := lay(t, p, "T a (?3 -> a)")
	if x.Kind != api.Con || x.Name != "T" || len(x.Args) != 2 || x.Args[0] != lay(t, p, "a") {
		t.Error(x)
	}
	f := x.Args[1]
	if f.Kind != api.Fun || f.Name != "" || len(f.Args) != 2 || f.Args[0].Kind != api.Meta || f.Args[0].N != 3 || f.Args[1] != x.Args[0] {
		t.Error(f)
	}
	if p.Node(api.Con, "T", 0, x.Args...) != x || p.Node(api.Var, "a", 0) != x.Args[0] || p.Node(api.Con, "T", 0, f, x.Args[0]) == x {
		t.Error("another node")
	}
	all := lay(t, p, "forall a. a -> b")
	if all.Kind != api.All || all.Name != "" || len(all.Args) != 1 || all.Args[0].Args[0] == lay(t, p, "a") || all.Args[0].Args[1] != lay(t, p, "b") {
		t.Error(all)
	}
}

// However many nodes there are, none is taken for another one.
func TestManyNodes(t *testing.T) {
	p := sharing.Pool{}
	var leaves []*sharing.Node
	for i := range 130 {
		leaves = append(leaves, p.Lay(v("n"+strconv.Itoa(i)), nil))
	}
	met := map[*sharing.Node]int{}
	for _, x := range leaves {
		met[p.Node(api.Con, "T", 0, x)]++
		for _, y := range leaves {
			met[p.Node(api.Con, "T", 0, x, y)]++
		}
	}
	if len(met) != 130+130*130 || len(p) != 130+len(met) {
		t.Error(len(met), len(p))
	}
}

// New names stand in the places of names that are free, and of no others.
func TestNewNames(t *testing.T) {
	p := sharing.Pool{}
	one := p.Lay(v("a"), map[string]int{"a": 1})
	if p.Lay(v("b"), map[string]int{"a": 2, "b": 1}) != one || p.Lay(v("a"), map[string]int{"a": 2}) == one || lay(t, p, "a") == one || p.Lay(v("a"), map[string]int{"b": 1}) == one {
		t.Error("not the new name")
	}
	x := p.Lay(parsed(t, "a -> (forall a. a -> b)"), map[string]int{"a": 1})
	if x.Args[0] != one || x.Args[1] != lay(t, p, "forall c. c -> b") {
		t.Error(p.Writer().Type(x, 0).Print())
	}
}

// What was laid out is written as it was; what is made of it has new names where something is bound.
func TestWriter(t *testing.T) {
	p := sharing.Pool{}
	for _, s := range []string{"a", "?3", "T", "T a (?1 -> b)", "forall b a. b -> a", "T (forall x0. x0) -> x1"} {
		if got := p.Writer().Type(lay(t, p, s), 0).Print(); got != s {
			t.Errorf("%q is written %q", s, got)
		}
	}
	all := lay(t, p, "forall b a. T b a x1")
	w := p.Writer()
	within := all.Args[0].Args[0]
	made := p.Node(api.Con, "P", 0, p.Node(api.All, "", 0, p.Node(api.All, "", 0, p.Node(api.Fun, "", 0, within, within))), all)
	if got := w.Type(made, 0).Print(); got != "P (forall x0 x2. T x0 x2 x1 -> T x0 x2 x1) (forall b a. T b a x1)" {
		t.Error(got)
	}
	if got := w.Type(within, 2).Print(); got != "T x0 x2 x1" || w.Name(0) != "x0" || w.Name(1) != "x2" || w.Name(4) != "x5" {
		t.Error(got)
	}
	if got := p.Writer().Type(within, 5).Print(); got != "T x4 x5 x1" {
		t.Error(got)
	}
}

// What is written at several places, with more or less for alls around it, has the names that are bound there.
func TestWrittenAtPlaces(t *testing.T) {
	p := sharing.Pool{}
	x := p.ForAll(1, 1, p.Lay(parsed(t, "(n -> a) -> forall b. (b -> a) -> n -> a"), map[string]int{"n": 1}))
	if got := p.Writer().Type(x, 0).Canon(); got != "forall x0. (x0 -> a) -> forall x1. (x1 -> a) -> x0 -> a" {
		t.Error(got)
	}
}

// Types are for all of new names, and what stands behind for alls has types in the places of names that these bind.
func TestForAllAndInstance(t *testing.T) {
	p := sharing.Pool{}
	x := p.Lay(parsed(t, "a -> d -> forall e. T e b c"), map[string]int{"a": 2, "b": 3, "c": 1})
	two := p.ForAll(2, 3, x)
	three := p.ForAll(1, 1, two)
	if three != lay(t, p, "forall c a b. a -> d -> forall e. T e b c") {
		t.Error(p.Writer().Type(three, 0).Print())
	}
	if p.ForAll(1, 2, lay(t, p, "d")) != lay(t, p, "forall a b. d") {
		t.Error("names that are not there")
	}
	us := []*sharing.Node{lay(t, p, "U"), lay(t, p, "forall f. f -> e")}
	for want, us := range map[string][]*sharing.Node{
		"forall c a b. a -> d -> forall e. T e b c":              nil,
		"forall a b. a -> d -> forall e. T e b U":                us[:1],
		"forall b. (forall f. f -> e) -> d -> forall z. T z b U": {us[0], us[1]},
	} {
		turned := slices.Clone(us)
		slices.Reverse(turned)
		if got := p.Instance(three, turned); got != lay(t, p, want) {
			t.Errorf("%q, not %q", p.Writer().Type(got, 0).Print(), want)
		}
	}
}

// What is in a type at many places is gone through once.
func TestGreatTypesEnd(t *testing.T) {
	const n = 60
	p := sharing.Pool{}
	twice := func(x *sharing.Node) *sharing.Node {
		for range n {
			x = p.Node(api.Fun, "", 0, x, x)
		}
		return x
	}
	x := p.ForAll(1, 1, twice(p.Lay(v("a"), map[string]int{"a": 1})))
	if got := p.Instance(x, []*sharing.Node{lay(t, p, "T b")}); got != twice(lay(t, p, "T b")) || got == twice(lay(t, p, "T c")) {
		t.Error("another node")
	}
	u := p.Writer().Type(x, 0).Args[0]
	for i := range n {
		u = u.Args[i%2]
	}
	if u.Print() != "x0" {
		t.Error(u.Print())
	}
}

// The way from a type ends where nothing stands for it, however often and from wherever it is gone.
func TestEnd(t *testing.T) {
	p := sharing.Pool{}
	var l []*sharing.Node
	stands := map[*sharing.Node]*sharing.Node{}
	for i := range 100 {
		l = append(l, p.Node(api.Meta, "", i))
		if i > 0 {
			stands[l[i-1]] = l[i]
		}
	}
	for range 3 {
		for _, from := range []int{50, 0, 99, 98, 1} {
			if got := sharing.End(stands, l[from]); got != l[99] {
				t.Error(from, got.N)
			}
		}
	}
	if x := lay(t, p, "a"); sharing.End(stands, x) != x || len(stands) != 99 {
		t.Error("another one")
	}
}

// Types fit that are the same, if their arguments are.
func TestFits(t *testing.T) {
	p := sharing.Pool{}
	groups := [][]string{{"a"}, {"b"}, {"?1"}, {"?2"}, {"T"}, {"T a", "T Int"}, {"U a"}, {"T a b", "T b a"}, {"a -> b", "b -> T a"}, {"forall a. a", "forall a b. T a"}}
	for i, g := range groups {
		for j, h := range groups {
			for _, s := range g {
				for _, u := range h {
					if lay(t, p, s).Fits(lay(t, p, u)) != (i == j) {
						t.Errorf("%q and %q", s, u)
					}
				}
			}
		}
	}
}

// What stands for types, or for what is in them, comes into its place, and what stands for something in that.
func TestFiller(t *testing.T) {
	p := sharing.Pool{}
	stands := map[*sharing.Node]*sharing.Node{lay(t, p, "?1"): lay(t, p, "T a"), lay(t, p, "a"): lay(t, p, "b -> ?2"), lay(t, p, "?3"): lay(t, p, "?2")}
	f := p.Filler(func(x *sharing.Node) *sharing.Node { return sharing.End(stands, x) })
	for s, want := range map[string]string{"?2": "?2", "?3": "?2", "?1": "T (b -> ?2)", "P ?1 a c": "P (T (b -> ?2)) (b -> ?2) c", "forall a. a -> ?3": "forall a. a -> ?2", "forall b. b -> a": "forall d. d -> b -> ?2"} {
		if got := f.Filled(lay(t, p, s)); got != lay(t, p, want) {
			t.Errorf("%q is filled %q", s, p.Writer().Type(got, 0).Print())
		}
	}
	for i := range 60 {
		next := p.Node(api.Meta, "", 101+i)
		stands[p.Node(api.Meta, "", 100+i)] = p.Node(api.Fun, "", 0, next, next)
	}
	x := f.Filled(lay(t, p, "?100"))
	for range 60 {
		x = x.Args[0]
	}
	if x != lay(t, p, "?160") {
		t.Error(x.N)
	}
}

// What is handed in stays as it was.
func TestNothingChanges(t *testing.T) {
	const s = "forall a. T a (b -> forall c. ?1)"
	x := parsed(t, s)
	p := sharing.Pool{}
	news := map[string]int{"b": 1}
	for range 2 {
		all := p.ForAll(1, 1, p.Lay(x, news))
		if all != lay(t, p, "forall b a. T a (b -> forall c. ?1)") {
			t.Error(p.Writer().Type(all, 0).Print())
		}
		if got := p.Writer().Type(p.Instance(all, []*sharing.Node{lay(t, p, "a")}), 0).Canon(); got != "forall x0. T x0 (a -> forall x1. ?1)" {
			t.Error(got)
		}
	}
	if !reflect.DeepEqual(x, parsed(t, s)) || len(news) != 1 {
		t.Error("changed")
	}
}

// Of trees that are no types nodes are made, too, without a panic.
func TestOddTrees(t *testing.T) {
	a := v("a")
	odd := []types.Type{{}, {Kind: -1, N: 3}, {Kind: -2, N: 1}, {Kind: 9, Args: []types.Type{a}}, {Kind: api.Fun}, {Kind: api.All, Name: "a"}, {Kind: api.All, Name: "a", Args: []types.Type{a, a}}, {Kind: api.Fun, Args: []types.Type{a, a, a}}, {Kind: api.Meta, N: -1, Args: []types.Type{a}}}
	p := sharing.Pool{}
	for _, x := range odd {
		all := types.Type{Kind: api.All, Name: "a", Args: []types.Type{{Kind: api.Con, Name: "T", Args: []types.Type{a, x}}}}
		n := p.Lay(all, nil)
		p.Writer().Type(n, 0)
		p.Instance(n, []*sharing.Node{p.Lay(x, nil)})
	}
}
