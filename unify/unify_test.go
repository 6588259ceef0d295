package unify_test

import (
	"reflect"
	"slices"
	"strconv"
	"strings"
	"testing"

	"savant/api"
	"savant/types"
	"savant/unify"
)

// parsed is the type of a text that must be one.
func parsed(t *testing.T, s string) types.Type {
	t.Helper()
	x, e := types.Parse(strings.TrimSpace(s))
	if e != api.OK {
		t.Fatalf("Parse(%q): %v", s, e)
	}
	return x
}

// equations reads such as "?1 = T ?2; ?2 = Int".
func equations(t *testing.T, s string) []unify.Eq {
	t.Helper()
	var l []unify.Eq
	for _, q := range strings.Split(s, ";") {
		if sides := strings.Split(q, "="); len(sides) == 2 {
			l = append(l, unify.Eq{L: parsed(t, sides[0]), R: parsed(t, sides[1])})
		} else if q != "" {
			t.Fatalf("%q is no equation", q)
		}
	}
	return l
}

func written(l []unify.Eq) string {
	var parts []string
	for _, q := range l {
		parts = append(parts, q.L.Print()+" = "+q.R.Print())
	}
	return strings.Join(parts, "; ")
}

// told writes what Unify answers: each unknown with its type, or the error's name.
func told(l []unify.Known, e api.Errno) string {
	var parts []string
	for _, k := range l {
		parts = append(parts, "?"+strconv.Itoa(k.Meta)+": "+k.T.Print())
	}
	names := map[api.Errno]string{api.OK: "", api.ErrClash: "clash", api.ErrOccurs: "occurs", api.ErrPoly: "poly", api.ErrEscape: "escape"}
	name, ok := names[e]
	if !ok {
		name = e.Error()
	}
	return name + strings.Join(parts, ", ")
}

func isUnified(t *testing.T, s, want string) {
	t.Helper()
	if got := told(unify.Unify(equations(t, s))); got != want {
		t.Errorf("Unify(%q) answers %q, not %q", s, got, want)
	}
}

// isUnifiedEitherWay asks likewise with the sides of each equation turned too.
func isUnifiedEitherWay(t *testing.T, s, want string) {
	t.Helper()
	isUnified(t, s, want)
	l := equations(t, s)
	for i, q := range l {
		l[i] = unify.Eq{L: q.R, R: q.L}
	}
	isUnified(t, written(l), want)
}

// D1: the chapter's examples.
func TestExamples(t *testing.T) {
	for _, c := range [][2]string{
		{"?1 -> ?2 = Int -> ?1", "?1: Int, ?2: Int"},
		{"?2 = ?1", "?2: ?1"},
		{"?1 = T ?1", "occurs"},
		{"?1 = forall a. a", "poly"},
		{"a = b", "clash"},
		{"T a = T a a", "clash"},
		{"forall a. a -> ?1 = forall b. b -> b", "escape"},
		{"forall a. ?1 -> a = forall b. Int -> b", "?1: Int"},
	} {
		isUnified(t, c[0], c[1])
	}
}

// D1, the way's 1: sides that are the same tell nothing, whatever is in them.
func TestSameSides(t *testing.T) {
	for _, s := range []string{
		"", "a = a", "?1 = ?1", "?0 = ?0", "Int = Int", "T a ?1 = T a ?1", "?1 -> a = ?1 -> a",
		"forall a. a = forall b. b", "forall a. ?1 -> a = forall b. ?1 -> b", "forall a. b = forall c. b",
		"T (forall a. a) = T (forall b. b)", "forall a a. a = forall b c. c", "forall a. a -> forall a. a = forall b. b -> forall b. b",
		"(forall a. a) -> a = (forall b. b) -> a", "a -> forall a. a = a -> forall b. b",
		"T ?1 (forall a. ?1 -> a) = T ?1 (forall a. ?1 -> a)",
	} {
		isUnifiedEitherWay(t, s, "")
	}
}

// D1, the way's 2: what an unknown comes to be, and what it must not.
func TestUnknowns(t *testing.T) {
	for _, c := range [][2]string{
		{"?1 = Int", "?1: Int"},
		{"?0 = a", "?0: a"},
		{"?999999 = ?0", "?999999: ?0"},
		{"?1 = ?2", "?2: ?1"},
		{"?10 = ?9", "?10: ?9"},
		{"?1 = ?2; ?2 = ?3", "?2: ?1, ?3: ?1"},
		{"?2 = ?3; ?1 = ?2", "?2: ?1, ?3: ?1"},
		{"?3 = ?2; ?3 = ?1", "?2: ?1, ?3: ?1"},
		{"?3 = ?1; ?3 = ?2", "?2: ?1, ?3: ?1"},
		{"?1 = ?2; ?2 = ?1; ?1 = ?1", "?2: ?1"},
		{"?1 = ?2; ?2 = Int", "?1: Int, ?2: Int"},
		{"?1 = ?2; ?1 = Int", "?1: Int, ?2: Int"},
		{"?1 = T ?2; ?2 = U ?3", "?1: T (U ?3), ?2: U ?3"},
		{"?3 = Int; ?2 = U ?3; ?1 = T ?2", "?1: T (U Int), ?2: U Int, ?3: Int"},
		{"?10 = T ?9; ?9 = a; ?2 = b", "?2: b, ?9: a, ?10: T a"},
		{"?1 = ?2 -> ?2; ?2 = ?4; ?4 = ?3", "?1: ?2 -> ?2, ?3: ?2, ?4: ?2"},
		{"?1 = ?4 -> ?4; ?3 = ?4; ?2 = ?3", "?1: ?2 -> ?2, ?3: ?2, ?4: ?2"},
		{"?1 = T ?3 ?2; ?2 = ?3", "?1: T ?2 ?2, ?3: ?2"},
		{"?1 = T ?2; ?1 = T ?3", "?1: T ?2, ?3: ?2"},
		{"?1 = T ?2; ?1 = T Int", "?1: T Int, ?2: Int"},
		{"?1 = T ?2; ?3 = T Int; ?1 = ?3", "?1: T Int, ?2: Int, ?3: T Int"},
		{"?1 = ?1 -> a", "occurs"},
		{"?1 = a -> T (U ?1)", "occurs"},
		{"?1 = T ?2; ?2 = ?1", "occurs"},
		{"?1 = T ?2; ?2 = U ?3; ?3 = ?1 -> Int", "occurs"},
		{"?3 = ?1; ?2 = T ?3; ?1 = ?2", "occurs"},
		{"?2 = ?1; ?1 = T ?2", "occurs"},
		{"?1 = T ?1 ?2; ?2 = Int", "occurs"},
		{"?1 = T (forall a. a)", "poly"},
		{"?1 = forall a. Int", "poly"},
		{"?1 = Int -> forall a. ?2", "poly"},
		{"?1 = T (forall a. a -> ?1)", "occurs"},
		{"?1 = T (forall a. a) ?1", "occurs"},
		{"?2 = ?1; ?1 = T (forall a. a) ?2", "occurs"},
	} {
		isUnifiedEitherWay(t, c[0], c[1])
	}
}

// D1, the way's 3 and 5: which types are taken apart, and which are not.
func TestTakenApart(t *testing.T) {
	for _, c := range [][2]string{
		{"T ?1 ?2 = T Int a", "?1: Int, ?2: a"},
		{"T ?1 ?1 = T ?2 Int", "?1: Int, ?2: Int"},
		{"(?1 -> ?2) -> ?3 = (a -> b) -> c", "?1: a, ?2: b, ?3: c"},
		{"?1 -> ?2 = a -> b -> c", "?1: a, ?2: b -> c"},
		{"T (U ?1) (a -> ?2) = T ?3 (?4 -> b)", "?2: b, ?3: U ?1, ?4: a"},
		{"T ?1 = U Int", "clash"},
		{"T = U", "clash"},
		{"T = T a", "clash"},
		{"T a b = T a", "clash"},
		{"T a b = a -> b", "clash"},
		{"a = Int", "clash"},
		{"a = a -> a", "clash"},
		{"a = T a", "clash"},
		{"a = forall a. a", "clash"},
		{"Int = forall a. Int", "clash"},
		{"a -> b = forall a. a", "clash"},
		{"a -> b = b -> a", "clash"},
		{"?1 -> ?1 = Int -> U", "clash"},
		{"?1 = Int; ?1 = a", "clash"},
		{"?1 = ?2; ?1 = Int; ?2 = U", "clash"},
		{"T ?1 (forall a. a) = T Int (forall b. b)", "?1: Int"},
	} {
		isUnifiedEitherWay(t, c[0], c[1])
	}
}

// D1, the way's 4: what stands behind for alls.
func TestForAlls(t *testing.T) {
	for _, c := range [][2]string{
		{"forall a. a = forall b. Int", "clash"},
		{"forall a b. a = forall a b. b", "clash"},
		{"forall a b. a -> b = forall b a. a -> b", "clash"},
		{"forall a. a = forall b. b -> b", "clash"},
		{"forall a. a = forall b c. b", "clash"},
		{"forall a. a -> b = forall b. b -> b", "clash"},
		{"forall a. b = forall b. b", "clash"},
		{"forall a. (forall a. a) -> a = forall b. (forall c. b) -> b", "clash"},
		{"forall a a. a = forall b c. b", "clash"},
		{"forall a. ?1 = forall b. Int", "?1: Int"},
		{"forall a. ?1 -> T a = forall b. ?2 -> ?3", "escape"},
		{"forall a. ?1 = forall b. b", "escape"},
		{"forall a. ?1 = forall b. T (b -> Int)", "escape"},
		{"forall a b. ?1 -> b = forall c d. c -> d", "escape"},
		{"forall a. forall b. T b ?1 = forall c. forall d. T d c", "escape"},
		{"forall a. ?1 -> ?2 = forall b. ?2 -> T b", "escape"},
		{"forall a. ?1 = forall b. T ?1 b", "occurs"},
		{"forall a. ?1 = forall b. T b (forall c. ?1)", "occurs"},
		{"forall a. ?1 = forall b. T b (forall c. c)", "poly"},
		{"forall a. ?1 = forall b. forall c. b", "poly"},
		{"forall a. ?1 -> a = forall b. a -> b", "?1: a"},
		{"forall a. a -> ?1 = forall b. b -> c", "?1: c"},
		{"forall a. a -> ?1 = forall b. b -> b -> b; ?1 = Int", "escape"},
		{"forall a. ?1 -> ?2 = forall b. ?2 -> ?3", "?2: ?1, ?3: ?1"},
		{"?1 = a; forall a. ?1 -> a = forall b. a -> b", "?1: a"},
		{"?1 = a; forall a. ?1 -> a = forall b. b -> b", "clash"},
		{"?1 = a; forall a. a -> a = forall b. b -> ?1", "clash"},
		{"?1 = T ?2; ?2 = a; forall a. ?1 -> a = forall a. T ?3 -> a", "?1: T a, ?2: a, ?3: a"},
		{"?1 = T ?2; forall a. ?1 -> a = forall a. T a -> a", "escape"},
		{"forall a. ?1 -> a = forall b. T c -> b; forall c. ?1 -> ?2 = forall d. ?3 -> Int", "?1: T c, ?2: Int, ?3: T c"},
		{"(forall a. a -> ?1) -> ?1 = (forall b. b -> ?2) -> Int", "?1: Int, ?2: Int"},
		{"(forall a. a) -> ?1 = (forall b. b) -> b", "?1: b"},
		{"(forall a. a -> ?1) -> a = (forall b. b -> U) -> ?2", "?1: U, ?2: a"},
		{"T (forall a. a) ?1 = T ?1 (forall a. a)", "poly"},
	} {
		isUnifiedEitherWay(t, c[0], c[1])
	}
}

// D1: arguments are worked off ahead of all others, the first pair first, and then the next equation; the first error that is met so is told.
func TestFirstError(t *testing.T) {
	for _, c := range [][2]string{
		{"a = b; ?1 = T ?1", "clash"},
		{"?1 = T ?1; a = b", "occurs"},
		{"?1 = forall a. a; ?2 = T ?2", "poly"},
		{"?1 = Int; ?2 = T ?2; ?3 = forall a. a", "occurs"},
		{"forall a. ?1 = forall b. b; a = b", "escape"},
		{"T a ?1 = T b (T ?1)", "clash"},
		{"T ?1 a = T (T ?1) b", "occurs"},
		{"?1 -> a = (forall a. a) -> b", "poly"},
		{"(?1 -> a) -> ?2 = (?1 -> b) -> T ?2", "clash"},
		{"T (U ?1) a = T (U (U ?1)) b", "occurs"},
		{"T (U a) ?1 = T (U b) (forall a. a); ?2 = U ?2", "clash"},
		{"T (T (T ?1 a) b) c = T (T (T (U ?1) b) c) a", "occurs"},
		{"T ?1 ?1 = T Int (T ?1)", "clash"},
		{"T (forall a. ?1) a = T (forall b. b) b", "escape"},
		{"T a (forall a. ?1) = T b (forall b. b)", "clash"},
		{"forall a. a -> T ?1 -> ?2 = forall b. b -> T b -> T ?2", "escape"},
		{"forall a. ?2 -> T ?1 = forall b. T ?2 -> T b", "occurs"},
		{"?1 = T ?2 a; ?2 = U ?3; ?1 = T (U (T ?3)) b", "occurs"},
		{"?1 = T a ?2; ?1 = T b (U ?2)", "clash"},
		{"?1 -> ?2 = T ?2 -> T ?1; a = b", "occurs"},
		{"T ?1 (forall a. ?2 -> a) = T (T ?2) (forall a. ?1 -> a)", "occurs"},
	} {
		isUnified(t, c[0], c[1])
	}
}

// D1: what Apply puts, and that it is put at once.
func TestApply(t *testing.T) {
	for _, c := range []struct{ known, s, want string }{
		{"", "?1 -> a", "?1 -> a"},
		{"?1 = Int", "?1", "Int"},
		{"?1 = Int", "?2", "?2"},
		{"?0 = Int", "a", "a"},
		{"?0 = Int", "T a (forall a. a -> ?0)", "T a (forall a. a -> Int)"},
		{"?1 = Int; ?2 = a", "T ?1 (?2 -> ?1) ?3", "T Int (a -> Int) ?3"},
		{"?1 = ?2; ?2 = Int", "?1 -> ?2", "?2 -> Int"},
		{"?2 = Int; ?1 = ?2", "?1 -> ?2", "?2 -> Int"},
		{"?1 = ?2; ?2 = ?1", "?1 -> ?2", "?2 -> ?1"},
		{"?1 = T ?1", "?1 -> ?1", "T ?1 -> T ?1"},
		{"?1 = a; ?1 = b", "?1", "a"},
		{"?1 = a; ?2 = b; ?1 = ?2; ?2 = c", "?1 -> ?2", "a -> b"},
		{"?1 = forall a. a -> ?1", "T ?1 ?1", "T (forall a. a -> ?1) (forall a. a -> ?1)"},
		{"?1 = a", "forall a. a -> ?1", "forall b. b -> a"},
		{"?1 = a", "forall a b. T a b ?1", "forall c d. T c d a"},
		{"?1 = a; ?2 = b", "forall a b. T a b ?1 ?2", "forall c d. T c d a b"},
		{"?1 = a -> x0", "forall a x0. T a x0 ?1", "forall c d. T c d (a -> x0)"},
		{"?1 = x0", "forall a. a -> ?1 -> forall x0. a -> x0", "forall b. b -> x0 -> forall c. b -> c"},
		{"?1 = x0; ?2 = a", "forall a. a -> ?1 -> ?2", "forall b. b -> x0 -> a"},
		{"?1 = a", "forall a. (forall a. a -> ?1) -> a", "forall b. (forall c. c -> a) -> b"},
		{"?1 = forall a. a -> b", "forall b. b -> ?1", "forall c. c -> forall a. a -> b"},
		{"?1 = a", "forall b. b -> a -> ?1", "forall b. b -> a -> a"},
		{"?1 = a", "a -> forall a. a -> T ?1 x1", "a -> forall b. b -> T a x1"},
		{"?1 = a; ?2 = b", "forall b. ?1 -> b", "forall b. a -> b"},
	} {
		var l []unify.Known
		for _, q := range equations(t, c.known) {
			l = append(l, unify.Known{Meta: q.L.N, T: q.R})
		}
		if got := unify.Apply(l, parsed(t, c.s)); !got.Same(parsed(t, c.want)) {
			t.Errorf("Apply(%q, %q) answers %q, not %q", c.known, c.s, got.Print(), c.want)
		}
	}
}

// R3, R4: an error comes alone; no equations and no types are none, whether there is a list or not.
func TestNilAndEmpty(t *testing.T) {
	for _, s := range []string{"?1 = Int; a = b", "?1 = Int; ?2 = T ?2", "?1 = Int; ?2 = forall a. a", "?1 = Int; forall a. ?2 = forall a. a"} {
		if l, e := unify.Unify(equations(t, s)); e == api.OK || len(l) != 0 {
			t.Errorf("Unify(%q) answers %v, %v", s, l, e)
		}
	}
	for _, l := range [][]unify.Eq{nil, {}} {
		if got, e := unify.Unify(l); len(got) != 0 || e != api.OK {
			t.Error(got, e)
		}
	}
	bare := types.Type{Kind: api.Con, Name: "T"}
	empty := types.Type{Kind: api.Con, Name: "T", Args: []types.Type{}}
	if got := told(unify.Unify([]unify.Eq{{L: bare, R: empty}, {L: empty, R: bare}})); got != "" {
		t.Error(got)
	}
	one := types.Type{Kind: api.Meta, N: 1, Args: []types.Type{}}
	if got := told(unify.Unify([]unify.Eq{{L: one, R: empty}, {L: types.Type{Kind: api.Meta, N: 1}, R: bare}})); got != "?1: T" {
		t.Error(got)
	}
	for _, l := range [][]unify.Known{nil, {}} {
		if got := unify.Apply(l, one); got.Print() != "?1" {
			t.Error(got)
		}
	}
}

// R5, R6: what is handed in stays as it was, and two calls answer alike.
func TestNothingChanges(t *testing.T) {
	const s = "?3 -> ?2 = T ?1 (U a) -> ?1; forall a. T a ?4 = forall b. T b ?3; ?5 = ?4 -> x0"
	const u = "forall a x0. T a x0 ?5 ?4 (forall b. b -> ?3)"
	l, x := equations(t, s), parsed(t, u)
	known, e := unify.Unify(l)
	first, put := told(known, e), unify.Apply(known, x).Print()
	if first != "?2: ?1, ?3: T ?1 (U a), ?4: T ?1 (U a), ?5: T ?1 (U a) -> x0" {
		t.Error(first)
	}
	for range 20 {
		if got := told(unify.Unify(l)); got != first {
			t.Fatalf("%q, and then %q", first, got)
		}
		if got := unify.Apply(known, x).Print(); got != put {
			t.Fatalf("%q, and then %q", put, got)
		}
	}
	if !reflect.DeepEqual(l, equations(t, s)) || !reflect.DeepEqual(x, parsed(t, u)) || told(known, e) != first {
		t.Error("what was handed in is changed")
	}
}

// R1: of trees that are no types nothing is promised but that each call ends, and does not panic.
func TestNoTypes(t *testing.T) {
	a, one := types.Type{Kind: api.Var, Name: "a"}, types.Type{Kind: api.Meta, N: 1}
	odd := []types.Type{one, {Kind: api.Meta, N: -1 << 63}}
	for kind := -1; kind <= 6; kind++ {
		for n := range 4 {
			odd = append(odd, types.Type{Kind: kind, Name: "a", N: -1, Args: slices.Repeat([]types.Type{a}, n)}, types.Type{Kind: kind, Args: slices.Repeat([]types.Type{one}, n)}, types.Type{Kind: kind, Args: slices.Repeat([]types.Type{{}}, n)})
		}
	}
	for _, x := range odd {
		odd = append(odd, types.Type{Kind: api.All, Name: "a", Args: []types.Type{x}}, types.Type{Kind: api.Fun, Args: []types.Type{x, a}})
	}
	for _, x := range odd {
		for _, y := range odd {
			known, _ := unify.Unify([]unify.Eq{{L: x, R: y}, {L: one, R: y}, {L: types.Type{Kind: api.Con, Name: "T", Args: []types.Type{one, y}}, R: x}})
			unify.Apply(known, x)
			unify.Apply([]unify.Known{{Meta: 1, T: y}, {Meta: -1, T: x}}, x)
		}
	}
}
