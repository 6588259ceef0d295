package match_test

import (
	"slices"
	"strconv"
	"strings"
	"testing"

	"savant/api"
	"savant/match"
	"savant/types"
)

// small are the texts of all types of at most so many parts within one another, of few names.
func small(deep int) []string {
	if deep == 1 {
		return []string{"a", "b", "?1", "U"}
	}
	less := small(deep - 1)
	l := slices.Clone(less)
	for _, x := range less {
		l = append(l, "T ("+x+")", "forall a. "+x, "forall b. "+x)
		for _, y := range less {
			l = append(l, "("+x+") -> "+y)
		}
	}
	return l
}

// few are the small types of two parts, and one of each step of three.
func few(t *testing.T, step int) []types.Type {
	var l []types.Type
	for _, s := range small(2) {
		l = append(l, parsed(t, s))
	}
	deep := small(3)
	for i := len(l) + step/2; i < len(deep); i += step {
		l = append(l, parsed(t, deep[i]))
	}
	return l
}

// plain are the parts of a type that have no for all.
func plain(t types.Type) []types.Type {
	var l []types.Type
	if !t.Poly() {
		l = append(l, t)
	}
	for _, a := range t.Args {
		l = append(l, plain(a)...)
	}
	return l
}

// with is p with types in the place of names, all at once: first with unknowns that no other type here has, then with the types in the place of these, so that none is put into another one.
func with(p types.Type, l []match.Binding) types.Type {
	const first = 900000
	for i, b := range l {
		p = p.Put(b.Name, types.Type{Kind: api.Meta, N: first + i})
	}
	for i, b := range l {
		p = p.Fill(first+i, b.T)
	}
	return p
}

// tried looks for what Match tells by trying: in the place of a name stands a part of t, or nothing does.
func tried(p, t types.Type, vars []string) (string, bool) {
	var open []match.Binding
	for _, name := range p.Free() {
		if slices.Contains(vars, name) {
			open = append(open, match.Binding{Name: name})
		}
	}
	parts := plain(t)
	var try func(n int) bool
	try = func(n int) bool {
		if n == len(open) {
			return with(p, open).Same(t)
		}
		return slices.ContainsFunc(parts, func(u types.Type) bool {
			open[n].T = u
			return try(n + 1)
		})
	}
	if !try(0) {
		return told(nil, false), false
	}
	return told(open, true), true
}

// C1: of small types Match tells what trying tells.
func TestSmallMatch(t *testing.T) {
	matched := 0
	l := few(t, 5)
	for _, p := range l {
		for _, u := range l {
			for _, vars := range [][]string{nil, {"a"}, {"b", "a"}} {
				want, ok := tried(p, u, vars)
				if ok {
					matched++
				}
				if got := told(match.Match(p, u, vars)); got != want {
					t.Errorf("Match(%q, %q, %v) answers %q, not %q", p.Print(), u.Print(), vars, got, want)
				}
			}
		}
	}
	if matched < 500 {
		t.Errorf("only %d were matched", matched)
	}
}

// C1: whatever is put in the place of names is found again.
func TestSmallFound(t *testing.T) {
	us := []string{"a", "b", "b -> a", "T (a -> ?1)", "x0", "U"}
	for i, s := range small(3) {
		p := parsed(t, s)
		put := []match.Binding{{Name: "a", T: parsed(t, us[i%6])}, {Name: "b", T: parsed(t, us[i/6%6])}}
		var want []match.Binding
		for _, name := range p.Free() {
			want = append(want, put[slices.Index([]string{"a", "b"}, name)])
		}
		u := parsed(t, with(p, put).Canon())
		if got := told(match.Match(p, u, []string{"a", "b"})); got != told(want, true) {
			t.Errorf("Match(%q, %q) answers %q, not %q", s, u.Print(), got, told(want, true))
		}
	}
}

// C2: what is behind the for alls, with as many for alls of the names ahead of it, is the type; each name is the first one that is left.
func TestSmallPeel(t *testing.T) {
	for _, s := range small(3) {
		s = strings.ReplaceAll(s, "b", "p0")
		x := parsed(t, s)
		names, body := match.Peel(x)
		again, n, ahead := body, 0, x
		for _, name := range names {
			for slices.Contains(x.Free(), "p"+strconv.Itoa(n)) {
				n++
			}
			if name != "p"+strconv.Itoa(n) || ahead.Kind != api.All {
				t.Errorf("Peel(%q) answers %v", s, names)
			}
			n++
			ahead = ahead.Args[0]
		}
		for i := range names {
			again = types.Type{Kind: api.All, Name: names[len(names)-1-i], Args: []types.Type{again}}
		}
		if !again.Same(x) || body.Kind == api.All || len(names) == 0 && body.Print() != x.Print() {
			t.Errorf("Peel(%q) answers %v, %q", s, names, body.Print())
		}
	}
}

// opened is what stands behind the for alls at t's begin, with constructors or unknowns that are met nowhere else in the place of their names.
func opened(t types.Type, sort func(n int) types.Type) types.Type {
	for n := 0; t.Kind == api.All; n++ {
		t = t.Args[0].Put(t.Name, sort(n))
	}
	return t
}

// triedInstance looks for an instance by trying: in the place of general's names stand parts of what special is of constructors of its own, or nothing does.
func triedInstance(general, special types.Type) bool {
	const first = 800000
	general = opened(general, func(n int) types.Type { return types.Type{Kind: api.Meta, N: first + n} })
	special = opened(special, func(n int) types.Type { return types.Type{Kind: api.Con, Name: "P" + strconv.Itoa(n)} })
	parts := plain(special)
	var try func(g types.Type) bool
	try = func(g types.Type) bool {
		i := slices.IndexFunc(g.Metas(), func(n int) bool { return n >= first })
		if i < 0 {
			return g.Same(special)
		}
		return slices.ContainsFunc(parts, func(u types.Type) bool { return try(g.Fill(g.Metas()[i], u)) })
	}
	return try(general)
}

// C3: of small types Instance tells what trying tells.
func TestSmallInstance(t *testing.T) {
	found := 0
	l := few(t, 4)
	for _, general := range l {
		for _, special := range l {
			want := triedInstance(general, special)
			if want {
				found++
			}
			if match.Instance(general, special) != want {
				t.Errorf("Instance(%q, %q) does not answer %v", general.Print(), special.Print(), want)
			}
		}
	}
	if found < 500 {
		t.Errorf("only %d are instances", found)
	}
}

// C4: each type is an instance of itself, and of one of all types, if it has no for all but at its begin; with types in the place of its names its body is an instance of it.
func TestSmallInstanceOfItself(t *testing.T) {
	all := parsed(t, "forall a. a")
	us := []string{"a", "p0", "q0 -> b", "T (?1 -> p1)", "U"}
	for i, s := range small(3) {
		x := parsed(t, s)
		names, body := match.Peel(x)
		if !match.Instance(x, x) || match.Instance(all, x) == body.Poly() {
			t.Errorf("%q is no instance of itself, or is one of all types, or not", s)
		}
		var l []match.Binding
		for n, name := range names {
			l = append(l, match.Binding{Name: name, T: parsed(t, us[(i+n)%5])})
		}
		if y := with(body, l); !match.Instance(x, y) {
			t.Errorf("%q is no instance of %q", y.Print(), s)
		}
	}
}

// C4: what is an instance of an instance is one.
func TestSmallInstanceOfInstance(t *testing.T) {
	l := few(t, 7)
	under := map[int][]int{}
	for i, x := range l {
		for j, y := range l {
			if match.Instance(x, y) {
				under[i] = append(under[i], j)
			}
		}
	}
	for i, js := range under {
		for _, j := range js {
			for _, k := range under[j] {
				if !slices.Contains(under[i], k) {
					t.Errorf("%q, %q, %q", l[i].Print(), l[j].Print(), l[k].Print())
				}
			}
		}
	}
}

// C4: names of types that are bound do not matter to what is told.
func FuzzInstance(f *testing.F) {
	for _, s := range [][2]string{{"forall a b. a -> b", "forall c. c -> c"}, {"forall a. a", "(forall b. b) -> Int"}, {"forall a. T a (forall p0. p0 -> a)", "p0"}} {
		f.Add(s[0], s[1])
	}
	f.Fuzz(func(t *testing.T, s, u string) {
		x, e := types.Parse(s)
		y, e2 := types.Parse(u)
		if e != api.OK || e2 != api.OK {
			return
		}
		cx, e := types.Parse(x.Canon())
		cy, e2 := types.Parse(y.Canon())
		if e == api.OK && e2 == api.OK && match.Instance(x, y) != match.Instance(cx, cy) {
			t.Errorf("Instance(%q, %q)", s, u)
		}
		if !match.Instance(x, x) {
			t.Errorf("%q is no instance of itself", s)
		}
	})
}
