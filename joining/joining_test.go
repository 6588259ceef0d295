package joining_test

import (
	"strconv"
	"strings"
	"testing"

	"savant/api"
	"savant/joining"
	"savant/sharing"
	"savant/types"
)

func lay(t *testing.T, p sharing.Pool, s string) *sharing.Node {
	t.Helper()
	x, e := types.Parse(strings.TrimSpace(s))
	if e != api.OK {
		t.Fatalf("%q is no type", s)
	}
	return p.Lay(x, nil)
}

// equations reads such as "a ~ T b, b ~ Int": they are called c0, c1 and so on.
func equations(t *testing.T, p sharing.Pool, s string) []*joining.Equation {
	t.Helper()
	var l []*joining.Equation
	for i, q := range strings.Split(s, ",") {
		if left, right, ok := strings.Cut(q, "~"); ok {
			l = append(l, &joining.Equation{Pair: joining.Pair{L: lay(t, p, left), R: lay(t, p, right)}, Given: "c" + strconv.Itoa(i)})
		}
	}
	return l
}

// byBytes has all names at one place.
func byBytes(string) int { return 0 }

// What types are, as far as one must see: not a variable, if they do not stay one, and else the first one of those that are equal.
func TestHead(t *testing.T) {
	places := map[string]int{"z": -1, "b": 1}
	for _, x := range []struct{ said, s, want string }{
		{"", "a", "a"},
		{"a ~ Int", "a", "Int"},
		{"Int ~ a", "a", "Int"},
		{"a ~ T b, b ~ Int", "a", "T b"},
		{"d ~ c", "d", "c"},
		{"c ~ d", "d", "c"},
		{"b ~ c", "b", "c"},
		{"b ~ c, z ~ b", "c", "z"},
		{"T b ~ T c, c ~ z", "b", "z"},
		{"a ~ ?1", "a", "?1"},
		{"a ~ b -> c, b ~ Int", "a", "b -> c"},
	} {
		p := sharing.Pool{}
		j := joining.New(func(name string) int { return places[name] })
		if !j.Join(equations(t, p, x.said)) {
			t.Errorf("%q: contradiction", x.said)
			continue
		}
		if got := j.Head(lay(t, p, x.s)); got != lay(t, p, x.want) {
			t.Errorf("by %q %q is %q", x.said, x.s, p.Writer().Type(got, 0).Print())
		}
	}
}

// Types that are equal have one head, or heads that fit; and equations that no types solve are told.
func TestJoin(t *testing.T) {
	for _, s := range []string{"", "a ~ a", "a ~ T b, b ~ T d", "P a b ~ P b a", "a ~ ?1, b ~ ?1", "T a a ~ T b (T d)"} {
		p := sharing.Pool{}
		if !joining.New(byBytes).Join(equations(t, p, s)) {
			t.Errorf("%q: contradiction", s)
		}
	}
	for _, s := range []string{"Int ~ U", "a ~ Int, a ~ U", "a ~ T a", "a ~ T b, b ~ T a", "P a b ~ P b (T a)", "?1 ~ ?2", "?1 ~ Int", "a ~ ?1, a ~ Int", "T a ~ T a a", "a -> b ~ T a b", "b ~ b, d ~ Int -> d"} {
		p := sharing.Pool{}
		if joining.New(byBytes).Join(equations(t, p, s)) {
			t.Errorf("%q: no contradiction", s)
		}
	}
}

// The equations at a type tell by what it is another one: by a given, or as an argument.
func TestJoined(t *testing.T) {
	p := sharing.Pool{}
	j := joining.New(byBytes)
	said := equations(t, p, "a ~ Int, T b U ~ T d U, b ~ d, e ~ a")
	if !j.Join(said) {
		t.Fatal("contradiction")
	}
	a, b, d := lay(t, p, "a"), lay(t, p, "b"), lay(t, p, "d")
	if l := j.Joined(a); len(l) != 2 || l[0].Given != "c0" || l[0].Of != nil || l[1].Given != "c3" {
		t.Error(l)
	}
	l := j.Joined(b)
	if len(l) != 1 || l[0].L != b || l[0].R != d {
		t.Fatal(l)
	}
	// What the one tells already, the other one does not tell again.
	if l[0].Given != "c2" {
		t.Error(l[0])
	}
	if len(j.Joined(lay(t, p, "x"))) != 0 || len(said) != 4 {
		t.Error("joined")
	}
	j = joining.New(byBytes)
	j.Join(equations(t, p, "T U b ~ T U d"))
	if l := j.Joined(d); len(l) != 1 || l[0].Given != "" || l[0].N != 1 || l[0].Of.L != lay(t, p, "T U b") || l[0].Of.R != lay(t, p, "T U d") {
		t.Error(l)
	}
}
