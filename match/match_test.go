package match_test

import (
	"reflect"
	"slices"
	"strings"
	"testing"

	"savant/api"
	"savant/match"
	"savant/types"
)

// parsed is the type of a text that must be one.
func parsed(t *testing.T, s string) types.Type {
	t.Helper()
	x, e := types.Parse(s)
	if e != api.OK {
		t.Fatalf("Parse(%q): %v", s, e)
	}
	return x
}

// told writes what Match answers: each name with the type in its place, or "none".
func told(l []match.Binding, ok bool) string {
	if !ok {
		return "none" + strings.Repeat(" but a list", min(len(l), 1))
	}
	var parts []string
	for _, b := range l {
		parts = append(parts, b.Name+": "+b.T.Print())
	}
	return strings.Join(parts, ", ")
}

func isMatched(t *testing.T, p, u, vars, want string) {
	t.Helper()
	if got := told(match.Match(parsed(t, p), parsed(t, u), strings.Fields(vars))); got != want {
		t.Errorf("Match(%q, %q, %s) answers %q, not %q", p, u, vars, got, want)
	}
}

// isPeeled asks for the names, and for what is behind them, which may have other names that are bound within it.
func isPeeled(t *testing.T, s, names, body string) {
	t.Helper()
	got, rest := match.Peel(parsed(t, s))
	if strings.Join(got, " ") != names || !rest.Same(parsed(t, body)) {
		t.Errorf("Peel(%q) answers %q, %q, not %q, %q", s, got, rest.Print(), names, body)
	}
}

func isInstance(t *testing.T, general, special string, want bool) {
	t.Helper()
	if match.Instance(parsed(t, general), parsed(t, special)) != want {
		t.Errorf("Instance(%q, %q) does not answer %v", general, special, want)
	}
}

// C1, C3: the chapter's examples.
func TestExamples(t *testing.T) {
	isMatched(t, "a -> T b", "Int -> T (U c)", "a b", "a: Int, b: U c")
	isMatched(t, "a -> a", "Int -> U", "a", "none")
	isMatched(t, "forall c. a -> c", "forall d. d -> d", "a", "none")
	isInstance(t, "forall a b. a -> b", "forall c. c -> c", true)
	isInstance(t, "forall a. a -> a", "forall c d. c -> d", false)
	isInstance(t, "forall a. a", "(forall b. b) -> Int", false)
}

// C1: what is matched without for alls.
func TestMatchPlain(t *testing.T) {
	for _, c := range [][4]string{
		{"a", "Int", "a", "a: Int"},
		{"a", "b -> ?3", "a", "a: b -> ?3"},
		{"a", "a", "a", "a: a"},
		{"a", "T a a", "a", "a: T a a"},
		{"a", "?1", "a", "a: ?1"},
		{"a", "a", "", ""},
		{"a", "b", "", "none"},
		{"a", "Int", "b", "none"},
		{"a", "a", "b A Int", ""},
		{"Int", "Int", "a", ""},
		{"Int", "U", "a", "none"},
		{"Int", "a", "a", "none"},
		{"?1", "?1", "a", ""},
		{"?1", "?2", "a", "none"},
		{"?1", "Int", "a", "none"},
		{"a -> b", "b -> a", "a b", "a: b, b: a"},
		{"a -> b", "b -> a", "a", "none"},
		{"a -> b", "b -> b", "a", "a: b"},
		{"a -> b", "T b -> b", "a", "a: T b"},
		{"a -> b -> a", "T b -> a -> T b", "a b", "a: T b, b: a"},
		{"a -> b -> a", "T b -> a -> T a", "a b", "none"},
		{"a -> b", "c -> d -> a", "a b", "a: c, b: d -> a"},
		{"(a -> b) -> c", "c -> b -> a", "a b c", "none"},
		{"T a b", "T (c -> a) b", "b a", "a: c -> a, b: b"},
		{"T b a b", "T U V U", "a b", "b: U, a: V"},
		{"T a b", "T a b", "b a b a", "a: a, b: b"},
		{"T a", "U Int", "a", "none"},
		{"T a", "T", "a", "none"},
		{"T", "T a", "a", "none"},
		{"T a", "T U V", "a", "none"},
		{"T a b", "T U", "a b", "none"},
		{"T a a", "T U U V", "a", "none"},
		{"T a b", "a -> b", "a b", "none"},
		{"a -> b", "T a b", "a b", "none"},
		{"T a ?1", "T ?1 ?1", "a", "a: ?1"},
		{"T a ?1", "T ?1 Int", "a", "none"},
	} {
		isMatched(t, c[0], c[1], c[2], c[3])
	}
}

// C1: what is matched where there are for alls in either type.
func TestMatchForAlls(t *testing.T) {
	for _, c := range [][4]string{
		{"a", "forall b. b", "a", "none"},
		{"a", "forall b. Int", "a", "none"},
		{"a", "T (forall b. b)", "a", "none"},
		{"a", "Int -> forall b. b", "a", "none"},
		{"a -> b", "Int -> forall c. c", "a b", "none"},
		{"a -> b", "(forall c. c) -> Int", "b", "none"},
		{"b", "forall a. a", "a", "none"},
		{"forall a. a", "forall b. b", "", ""},
		{"forall a. a", "forall b. b", "a b", ""},
		{"forall a. a", "forall b. Int", "a", "none"},
		{"forall a. a", "Int", "a", "none"},
		{"Int", "forall a. Int", "a", "none"},
		{"forall a. b", "forall a. Int", "b", "b: Int"},
		{"forall a. b", "forall b. a", "b", "b: a"},
		{"forall a. b", "forall b. b", "b", "none"},
		{"forall a. b", "forall a. a", "b", "none"},
		{"forall a. b", "forall b. T b", "b", "none"},
		{"forall a. b", "forall a. forall c. c", "b", "none"},
		{"forall a. a -> b", "forall c. c -> T a", "b", "b: T a"},
		{"forall a. a -> b", "forall a. a -> a", "b", "none"},
		{"forall a. a -> b", "forall c. c -> x0", "b", "b: x0"},
		{"forall a x0. T a x0 b", "forall c d. T c d (a -> x0)", "b", "b: a -> x0"},
		{"forall a b. a -> b -> c", "forall b a. b -> a -> b_1", "c", "c: b_1"},
		{"forall a b. a -> b", "forall a b. b -> a", "", "none"},
		{"forall a a. a -> b", "forall a b. b -> c", "b", "b: c"},
		{"forall a a. a -> b", "forall b a. b -> c", "b", "none"},
		{"forall a b. a -> c", "forall a. a -> Int", "c", "none"},
		{"(forall a. a) -> a", "(forall b. b) -> Int", "a", "a: Int"},
		{"a -> forall a. a", "Int -> forall b. b", "a", "a: Int"},
		{"a -> forall a. a", "Int -> forall b. Int", "a", "none"},
		{"a -> forall c. a", "Int -> forall c. Int", "a", "a: Int"},
		{"a -> forall c. a", "c -> forall d. c", "a", "a: c"},
		{"a -> forall c. a", "c -> forall c. c", "a", "none"},
		{"(forall c. a) -> a", "(forall c. c) -> c", "a", "none"},
		{"(forall c. a) -> a", "(forall d. c) -> c", "a", "a: c"},
		{"(forall c. c -> a) -> b -> a", "(forall a. a -> b) -> c -> b", "a b", "a: b, b: c"},
		{"forall c. a -> b", "forall c. b -> a", "a b", "a: b, b: a"},
		{"forall c. c -> b", "forall b. b -> b", "", "none"},
		{"forall c. c -> b", "forall d. d -> b", "", ""},
		{"forall c. a -> b -> T a b", "forall x. c -> d -> T c d", "a b", "a: c, b: d"},
		{"T (forall c. b) a", "T (forall c. U) V", "a b", "b: U, a: V"},
		{"(forall a. (forall a. a) -> a) -> a", "(forall b. (forall c. c) -> b) -> Int", "a", "a: Int"},
		{"a -> forall a. (forall a. a) -> a", "Int -> forall b. (forall c. c) -> b", "a", "a: Int"},
		{"(forall a. (forall b. a) -> a) -> a", "(forall b. (forall c. b) -> b) -> Int", "a b", "a: Int"},
	} {
		isMatched(t, c[0], c[1], c[2], c[3])
	}
}

// C2: what is behind the for alls, and with which names.
func TestPeel(t *testing.T) {
	for _, c := range [][3]string{
		{"a", "", "a"},
		{"p0", "", "p0"},
		{"?1 -> T a", "", "?1 -> T a"},
		{"(forall a. a) -> b", "", "(forall a. a) -> b"},
		{"T (forall a. a)", "", "T (forall a. a)"},
		{"forall a. a", "p0", "p0"},
		{"forall a. Int", "p0", "Int"},
		{"forall a b. a -> b", "p0 p1", "p0 -> p1"},
		{"forall a b. b -> a", "p0 p1", "p1 -> p0"},
		{"forall a b c. b", "p0 p1 p2", "p1"},
		{"forall a a. a", "p0 p1", "p1"},
		{"forall a b a. a -> b", "p0 p1 p2", "p2 -> p1"},
		{"forall a. a -> ?1 -> b", "p0", "p0 -> ?1 -> b"},
		{"forall a. p0 -> a", "p1", "p0 -> p1"},
		{"forall a b c. T p1 a p2 b c", "p0 p3 p4", "T p1 p0 p2 p3 p4"},
		{"forall a. p00 -> p01 -> a", "p0", "p00 -> p01 -> p0"},
		{"forall a. a -> P0", "p0", "p0 -> P0"},
		{"forall p0. p0", "p0", "p0"},
		{"forall p1. p1", "p0", "p0"},
		{"forall p1 p0. p1 -> p0", "p0 p1", "p0 -> p1"},
		{"forall p2 p0 p1. T p0 p1 p2", "p0 p1 p2", "T p1 p2 p0"},
		{"forall p0. (forall p0. p0) -> p0", "p0", "(forall a. a) -> p0"},
		{"forall a. a -> forall b. b -> a", "p0", "p0 -> forall b. b -> p0"},
		{"forall a. a -> forall a. a", "p0", "p0 -> forall a. a"},
		{"forall a. a -> forall p0. p0 -> a", "p0", "p0 -> forall b. b -> p0"},
		{"forall a. a -> forall p1. p1 -> a", "p0", "p0 -> forall b. b -> p0"},
		{"forall a. a -> forall p0 x0. T p0 x0 a", "p0", "p0 -> forall b c. T b c p0"},
		{"forall a. a -> forall x0 p0. T p0 x0 a", "p0", "p0 -> forall c b. T b c p0"},
		{"forall a. T x0 (forall p0. T p0 x0 a)", "p0", "T x0 (forall b. T b x0 p0)"},
		{"forall a. (forall p0. p0) -> p0 -> a", "p1", "(forall b. b) -> p0 -> p1"},
		{"forall a b. T (forall p0 p1. T p0 p1 a b) (forall p1. T p1 a b)", "p0 p1", "T (forall c d. T c d p0 p1) (forall c. T c p0 p1)"},
	} {
		isPeeled(t, c[0], c[1], c[2])
	}
}

// C2: names that are bound further in change only where what stands in the for alls' places would be caught.
func TestPeelLeavesNames(t *testing.T) {
	for s, want := range map[string]string{
		"(forall b p0. p0) -> a":                  "(forall b p0. p0) -> a",
		"forall a. a -> forall b. b -> a":         "p0 -> forall b. b -> p0",
		"forall a. a -> forall a. a":              "p0 -> forall a. a",
		"forall b. (forall a p1 x0. T a p1) -> b": "(forall a p1 x0. T a p1) -> p0",
	} {
		if _, body := match.Peel(parsed(t, s)); body.Print() != want {
			t.Errorf("Peel(%q) answers %q, not %q", s, body.Print(), want)
		}
	}
}

// C3, C4: which types are instances of which.
func TestInstance(t *testing.T) {
	for _, c := range []struct {
		general, special string
		want             bool
	}{
		{"Int", "Int", true},
		{"Int", "U", false},
		{"a", "a", true},
		{"a", "b", false},
		{"a", "Int", false},
		{"?1", "?1", true},
		{"?1", "Int", false},
		{"?1", "forall a. ?1", true},
		{"Int", "forall a. Int", true},
		{"forall a. Int", "Int", true},
		{"forall a. a", "Int", true},
		{"forall a. a", "b", true},
		{"forall a. a", "a", true},
		{"forall a. a", "forall b. b", true},
		{"forall a. a", "forall b. ?1 -> b", true},
		{"forall a. a", "forall b c. T c b", true},
		{"forall a. a", "forall b. b -> forall c. c", false},
		{"forall a. a", "T (forall c. Int)", false},
		{"Int", "forall a. a", false},
		{"b", "forall a. a", false},
		{"b", "forall b. b", false},
		{"p0", "forall a. a", false},
		{"q0", "forall a. a", false},
		{"forall a. q0", "forall a. a", false},
		{"forall a. q0 -> a", "Int -> Int", false},
		{"forall a. q0 -> a", "q0 -> Int", true},
		{"forall a. q0 -> a", "q0 -> q0", true},
		{"forall a. p0 -> a", "forall b. b -> b", false},
		{"forall a. p0 -> a", "forall b. p0 -> b", true},
		{"forall a. a", "q0", true},
		{"forall a. a -> a", "q0 -> q0", true},
		{"forall a. a -> p0", "forall b. q0 -> p0", true},
		{"forall a b. a -> b -> a", "forall a. p0 -> a -> p0", true},
		{"forall a b. a -> b -> a", "forall a. p0 -> a -> a", false},
		{"forall a. a -> a", "Int -> Int", true},
		{"forall a. a -> a", "Int -> U", false},
		{"forall a b. a -> b", "forall b a. b -> a", true},
		{"forall a b. a -> b", "forall a b. b -> a", true},
		{"forall a b. a -> b", "forall a. a -> a", true},
		{"forall a. a -> a", "forall a b. a -> b", false},
		{"forall a b c. a", "forall c. c", true},
		{"forall a a. a -> a", "forall b. T b -> T b", true},
		{"forall a. a -> b", "Int -> b", true},
		{"forall a. a -> b", "Int -> Int", false},
		{"forall a. a -> b", "forall b. b -> b", false},
		{"forall a. T a -> a", "forall a. T (T a) -> T a", true},
		{"forall a. T a -> a", "forall a. T (T a) -> a", false},
		{"(forall a. a -> a) -> Int", "(forall b. b -> b) -> Int", true},
		{"(forall a. a -> a) -> Int", "(Int -> Int) -> Int", false},
		{"forall b. b -> forall a. a -> b", "Int -> forall c. c -> Int", true},
		{"forall b. b -> forall a. a -> b", "forall c. c -> forall b. b -> c", true},
		{"forall b. b -> forall a. a -> b", "forall c. c -> forall b. b -> b", false},
		{"forall b. forall a. a -> b", "forall a b. a -> b", true},
		{"forall b. (forall a. b) -> Int", "(forall a. a) -> Int", false},
		{"forall b. (forall a. b) -> b", "forall c. (forall a. c) -> c", true},
		{"forall b. (forall q0. q0 -> b) -> b", "(forall a. a -> q0) -> q0", true},
		{"Int -> forall a. a", "forall a. Int -> a", false},
		{"forall a. Int -> a", "Int -> forall a. a", false},
	} {
		isInstance(t, c.general, c.special, c.want)
	}
}

// R4: no arguments and no names are none, whether there is a list or not.
func TestNilAndEmpty(t *testing.T) {
	bare := types.Type{Kind: api.Con, Name: "T"}
	empty := types.Type{Kind: api.Con, Name: "T", Args: []types.Type{}}
	a := types.Type{Kind: api.Var, Name: "a", Args: []types.Type{}}
	for _, vars := range [][]string{nil, {}, {"a"}} {
		for _, ok := range []string{told(match.Match(bare, empty, vars)), told(match.Match(empty, bare, vars))} {
			if ok != "" {
				t.Error(ok)
			}
		}
	}
	if told(match.Match(a, empty, []string{"a"})) != "a: T" || told(match.Match(a, bare, []string{})) != "none" {
		t.Error("a variable with an empty list")
	}
	if names, body := match.Peel(empty); len(names) != 0 || !body.Same(bare) {
		t.Error(names, body)
	}
	if !match.Instance(bare, empty) || !match.Instance(empty, bare) {
		t.Error("no instance")
	}
}

// R5, R6: what is handed in stays as it was, and two calls answer alike.
func TestNothingChanges(t *testing.T) {
	texts := []string{"forall a b. T a b (forall p0 x0. T p0 a x0)", "forall c. T c (U d) (forall a b. T a c b)", "T a b (forall p0 x0. T p0 a x0)"}
	vars := []string{"b", "a", "a", "c"}
	kept := slices.Clone(vars)
	var l []types.Type
	for _, s := range texts {
		l = append(l, parsed(t, s))
	}
	ask := func() string {
		var b strings.Builder
		for _, x := range l {
			names, body := match.Peel(x)
			b.WriteString(strings.Join(names, " ") + body.Print())
			for _, y := range l {
				_, rest := match.Peel(y)
				b.WriteString(told(match.Match(x, y, vars)) + told(match.Match(x, rest, vars)))
				if match.Instance(x, y) {
					b.WriteString("instance")
				}
			}
		}
		return b.String()
	}
	first := ask()
	for range 20 {
		if ask() != first {
			t.Fatal("two answers")
		}
	}
	for i, s := range texts {
		if !reflect.DeepEqual(l[i], parsed(t, s)) || !slices.Equal(vars, kept) {
			t.Errorf("changed: %q", s)
		}
	}
}

// R1: of trees that are no types nothing is promised but that each call ends, and does not panic.
func TestNoTypes(t *testing.T) {
	a := types.Type{Kind: api.Var, Name: "a"}
	var odd []types.Type
	for kind := -1; kind <= 6; kind++ {
		for n := range 4 {
			odd = append(odd, types.Type{Kind: kind, Name: "a", N: -1, Args: slices.Repeat([]types.Type{a}, n)}, types.Type{Kind: kind, Args: slices.Repeat([]types.Type{{}}, n)})
		}
	}
	for _, x := range odd {
		odd = append(odd, types.Type{Kind: api.All, Name: "a", Args: []types.Type{x}}, types.Type{Kind: api.Fun, Args: []types.Type{x, a}})
	}
	for _, x := range odd {
		match.Peel(x)
		for _, y := range odd {
			match.Match(x, y, []string{"a", ""})
			match.Instance(x, y)
		}
	}
}

// R1: each call ends with types of 2^16 parts within one another, in good time.
func TestDeepEnds(t *testing.T) {
	const deep = 1 << 16
	a := types.Type{Kind: api.Var, Name: "a"}
	left, within, forAlls, caught := a, a, a, a
	for i := range deep - 1 {
		left = types.Type{Kind: api.Fun, Args: []types.Type{left, a}}
		within = types.Type{Kind: api.Con, Name: "T", Args: []types.Type{a, within, {Kind: api.Var, Name: "b"}}}
		forAlls = types.Type{Kind: api.All, Name: []string{"a", "b", "p1"}[i%3], Args: []types.Type{forAlls}}
		caught = types.Type{Kind: api.All, Name: "p0", Args: []types.Type{caught}}
	}
	caught = types.Type{Kind: api.All, Name: "a", Args: []types.Type{{Kind: api.Fun, Args: []types.Type{caught, a}}}}
	for _, x := range []types.Type{left, within, forAlls, caught} {
		if l, ok := match.Match(x, x, []string{"a", "b"}); !ok || len(l) != len(x.Free()) || !match.Instance(x, x) {
			t.Error("deep: not itself")
		}
		if l, ok := match.Match(a, x, []string{"a"}); ok == x.Poly() || ok && !l[0].T.Same(x) {
			t.Error("deep: not in the place of a variable")
		}
	}
	if names, body := match.Peel(forAlls); len(names) != deep-1 || names[deep-2] != "p65534" || !slices.Equal(body.Free(), names[deep-2:]) || body.Depth() != 1 {
		t.Error("deep: not peeled")
	}
	if names, body := match.Peel(caught); len(names) != 1 || body.Depth() != deep+1 || !slices.Equal(body.Free(), []string{"p0"}) {
		t.Error("deep: not peeled as far as for alls go")
	}
}
