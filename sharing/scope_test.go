package sharing_test

import (
	"slices"
	"testing"

	"savant/api"
	"savant/sharing"
	"savant/types"
)

// inScope is the node of a text's type in a scope.
func inScope(t *testing.T, s *sharing.Scope, text string) *sharing.Node {
	t.Helper()
	n, ok := s.Type(parsed(t, text))
	if !ok {
		t.Fatalf("%q is no type", text)
	}
	return n
}

// A name that is bound is unlike all others, those that are written alike among them, and means the same further within; behind where it is bound it is what it was ahead of that.
func TestBind(t *testing.T) {
	s := sharing.Pool{}.Scope()
	free := inScope(t, s, "a")
	first, leaveFirst := s.Bind("a")
	if !s.Binds("a") || s.Binds("b") || inScope(t, s, "a") != first || first == free {
		t.Error("the first name")
	}
	second, leaveSecond := s.Bind("a")
	if inScope(t, s, "a") != second || second == first || second == free || inScope(t, s, "T a b") == s.Lay(parsed(t, "T a b"), nil) {
		t.Error("the second name")
	}
	leaveSecond()
	if inScope(t, s, "a") != first || inScope(t, s, "forall a. a") != inScope(t, s, "forall b. b") {
		t.Error("behind the second name")
	}
	leaveFirst()
	if s.Binds("a") || inScope(t, s, "a") != free {
		t.Error("behind the first name")
	}
	if third, _ := s.Bind("a"); third == first || third == second {
		t.Error("the third name")
	}
}

// Types for all of names are made where these are bound; the innermost of those that are alike is the one that is meant.
func TestForNames(t *testing.T) {
	s := sharing.Pool{}.Scope()
	outer, leave := s.Bind("c")
	defer leave()
	for _, c := range []struct {
		names []string
		texts [][2]string
	}{
		{nil, [][2]string{{"a -> c", "a -> c"}, {"c", "c"}}},
		{[]string{"a"}, [][2]string{{"a -> b", "forall a. a -> b"}, {"c", "forall a. c"}, {"forall a. a", "forall b a. a"}}},
		{[]string{"a", "b"}, [][2]string{{"b -> a -> c", "forall x y. y -> x -> c"}}},
		{[]string{"c", "b"}, [][2]string{{"T b c", "forall x y. T y x"}}},
		{[]string{"a", "a"}, [][2]string{{"a", "forall x y. y"}, {"b", "forall x y. b"}}},
		{[]string{"a"}, nil},
	} {
		got := s.ForNames(c.names, func() (l []*sharing.Node) {
			for _, text := range c.texts {
				l = append(l, inScope(t, s, text[0]))
			}
			return l
		})
		if len(got) != len(c.texts) {
			t.Fatal(len(got))
		}
		for i, text := range c.texts {
			if got[i] != inScope(t, s, text[1]) {
				t.Errorf("%q for all of %q is %q", text[0], c.names, s.Writer().Type(got[i], 0).Print())
			}
		}
		if inScope(t, s, "c") != outer || s.Binds("a") || s.Binds("b") {
			t.Error("names are bound that were not")
		}
	}
	// What is made within others has no names that are bound there.
	within := s.ForNames([]string{"a"}, func() []*sharing.Node {
		return s.ForNames([]string{"b"}, func() []*sharing.Node { return []*sharing.Node{inScope(t, s, "T a (b -> c)")} })
	})
	if within[0] != inScope(t, s, "forall a b. T a (b -> c)") {
		t.Error(s.Writer().Type(within[0], 0).Print())
	}
}

// Trees are told from types, wherever in them something is not as it must be.
func TestNoTypes(t *testing.T) {
	s := sharing.Pool{}.Scope()
	a := v("a")
	for _, args := range [][]types.Type{nil, {a}, {a, a}, {a, a, a}} {
		for kind, want := range map[int]bool{-1: false, 0: false, api.Con: true, api.Fun: len(args) == 2, api.All: len(args) == 1, 6: false} {
			u := types.Type{Kind: kind, Name: "T", Args: args}
			for _, around := range []types.Type{u, {Kind: api.Con, Name: "T", Args: []types.Type{a, u}}, {Kind: api.All, Name: "a", Args: []types.Type{u}}} {
				if n, ok := s.Type(around); ok != want || (n != nil) != want {
					t.Errorf("kind %d with %d arguments: %v", kind, len(args), ok)
				}
			}
		}
	}
}

// Types come in the places of names that for alls bind, the last one first, also where for alls come with what is put; of several types none may be without them.
func TestInstances(t *testing.T) {
	p := sharing.Pool{}
	nodes := func(texts []string) (l []*sharing.Node) {
		for _, s := range texts {
			l = append(l, lay(t, p, s))
		}
		return l
	}
	for _, c := range []struct{ ts, us, want []string }{
		{nil, nil, nil},
		{nil, []string{"a", "b"}, nil},
		{[]string{"a", "forall a. a"}, nil, []string{"a", "forall a. a"}},
		{[]string{"forall a. T a b"}, []string{"U"}, []string{"T U b"}},
		{[]string{"forall a b. T a b", "forall a b. b"}, []string{"V", "U"}, []string{"T U V", "V"}},
		{[]string{"forall a b c. T a (b -> c)", "forall a b. b"}, []string{"V", "U"}, []string{"forall c. T U (V -> c)", "V"}},
		{[]string{"forall a. a"}, []string{"U", "forall b. b -> b"}, []string{"U -> U"}},
		{[]string{"forall a. a", "forall a b. T b a"}, []string{"U", "forall b. b -> b"}, []string{"U -> U", "T U (forall c. c -> c)"}},
		{[]string{"forall a. a"}, []string{"U", "forall c d. d -> c", "forall b. b"}, []string{"forall d. d -> U"}},
		{[]string{"forall a. a"}, []string{"V", "U", "forall c d. d -> c", "forall b. b"}, []string{"V -> U"}},
	} {
		got, ok := p.Instances(nodes(c.ts), nodes(c.us))
		if !ok || !slices.Equal(got, nodes(c.want)) {
			t.Errorf("%q with %q: %v", c.ts, c.us, ok)
		}
	}
	for _, c := range [][2][]string{
		{{"a"}, {"U"}}, {{"forall a. a"}, {"U", "U"}}, {{"forall a. a", "b"}, {"U"}}, {{"forall a b. a", "forall a. a"}, {"U", "V"}}, {{"a -> forall b. b"}, {"U"}}, {{"forall a. a"}, {"U", "V", "forall b. b"}},
	} {
		if got, ok := p.Instances(nodes(c[0]), nodes(c[1])); ok || got != nil {
			t.Errorf("%q with %q: %v", c[0], c[1], got)
		}
	}
	ts := nodes([]string{"forall a. a", "forall b. T b"})
	was := slices.Clone(ts)
	if p.Instances(ts, nodes([]string{"U"})); !slices.Equal(ts, was) {
		t.Error("changed")
	}
}
