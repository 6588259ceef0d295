package putting_test

import (
	"strings"
	"testing"

	"savant/api"
	"savant/putting"
	"savant/types"
)

func parsed(t *testing.T, s string) types.Type {
	t.Helper()
	x, e := types.Parse(s)
	if e != api.OK {
		t.Fatalf("Parse(%q): %v", s, e)
	}
	return x
}

// put is s with what places say, such as "a: T ?1, ?1: b", in its leaves' places.
func put(t *testing.T, s, places string) types.Type {
	t.Helper()
	stands := map[string]types.Type{}
	for _, p := range strings.Split(places, ",") {
		if leaf, u, ok := strings.Cut(p, ":"); ok {
			stands[strings.TrimSpace(leaf)] = parsed(t, u)
		}
	}
	return putting.Put(parsed(t, s), func(leaf types.Type) (types.Type, bool) {
		u, ok := stands[leaf.Print()]
		return u, ok
	})
}

// Names and unknowns give way at once, and nothing that is put is bound.
func TestPut(t *testing.T) {
	for _, c := range [][3]string{
		{"T a ?1 Int", "", "T a ?1 Int"},
		{"a -> ?1", "a: ?1, ?1: a", "?1 -> a"},
		{"a -> b -> a", "a: b, b: T a", "b -> T a -> b"},
		{"a -> A a", "A: b", "a -> A a"},
		{"a -> forall a. a -> b", "a: U, b: V", "U -> forall c. c -> V"},
		{"(forall a. a) -> a", "a: U", "(forall b. b) -> U"},
		{"forall a. a -> b -> ?1", "b: a, ?1: b", "forall c. c -> a -> b"},
		{"forall a a. a -> ?1", "?1: a", "forall b c. c -> a"},
		{"forall a x0. T a x0 x1 ?1", "?1: a -> x0", "forall b c. T b c x1 (a -> x0)"},
		{"forall a. (forall x0. x0 -> a) -> ?1", "?1: a", "forall b. (forall c. c -> b) -> a"},
		{"forall a. a -> ?1", "?1: forall b. b -> a", "forall c. c -> forall b. b -> a"},
	} {
		if got := put(t, c[0], c[1]); !got.Same(parsed(t, c[2])) {
			t.Errorf("%q with %q is %q, not %q", c[0], c[1], got.Print(), c[2])
		}
	}
}

// Of names alone that are free: an unknown has none.
func TestAtNames(t *testing.T) {
	found := map[string]types.Type{"a": parsed(t, "b"), "b": parsed(t, "T a"), "": parsed(t, "U"), "A": parsed(t, "U")}
	for s, want := range map[string]string{
		"a -> b -> a":             "b -> T a -> b",
		"A a ?0 c":                "A b ?0 c",
		"forall a. a -> b":        "forall c. c -> T a",
		"(forall b. b -> a) -> b": "(forall c. c -> b) -> T a",
	} {
		if got := putting.AtNames(parsed(t, s), found); !got.Same(parsed(t, want)) {
			t.Errorf("%q is %q, not %q", s, got.Print(), want)
		}
	}
}

// Names that are bound stay, where nothing that is put has them free.
func TestNamesThatStay(t *testing.T) {
	for _, c := range [][3]string{
		{"forall a. a -> b", "", "forall a. a -> b"},
		{"forall a. a -> b", "b: forall a. a", "forall a. a -> forall a. a"},
		{"forall a. a -> b", "c: a, ?1: a, b: c", "forall a. a -> c"},
		{"forall a b. T a b ?1", "?1: a", "forall x0 b. T x0 b a"},
	} {
		if got := put(t, c[0], c[1]).Print(); got != c[2] {
			t.Errorf("%q with %q is %q, not %q", c[0], c[1], got, c[2])
		}
	}
}

// What is handed in stays as it was.
func TestNothingChanges(t *testing.T) {
	x := parsed(t, "forall a. T a (b -> ?1)")
	was := x.Print()
	for range 2 {
		got := putting.Put(x, func(types.Type) (types.Type, bool) { return parsed(t, "a"), true })
		if !got.Same(parsed(t, "forall c. T c (a -> a)")) || x.Print() != was {
			t.Errorf("%q, %q", got.Print(), x.Print())
		}
	}
}

// An unknown is told by its number alone.
func TestUnknownWithName(t *testing.T) {
	one := types.Type{Kind: api.Meta, Name: "a", N: 1}
	x := types.Type{Kind: api.All, Name: "a", Args: []types.Type{one}}
	got := putting.Put(x, func(leaf types.Type) (types.Type, bool) { return parsed(t, "U"), leaf.Kind == api.Meta })
	if !got.Same(parsed(t, "forall a. U")) {
		t.Error(got.Print())
	}
}
