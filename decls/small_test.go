package decls_test

import (
	"math/rand"
	"slices"
	"strconv"
	"strings"
	"testing"

	"savant/api"
	"savant/decls"
	"savant/scope"
	"savant/syntax"
	"savant/types"
)

// isSameCon tells whether two constructors are the same, but for names that their types bind.
func isSameCon(c, d decls.Con) bool {
	return shown(c) == shown(d) && c.Name == d.Name && c.Data == d.Data && c.Tag == d.Tag && c.T.Print() == d.T.Print()
}

// isAsTold asks New, and the table that it makes, for what the reference tells, and whether what follows of it holds; it answers New's error.
func isAsTold(t *testing.T, l []syntax.Decl) api.Errno {
	t.Helper()
	want, wantError := wrongAsTold(l)
	tab, name, e := decls.New(l)
	if name != want || e != wantError || (tab == nil) != (e != api.OK) {
		t.Fatalf("New of %q: %v, %q, %v, not %q, %v", syntax.Print(l), tab, name, e, want, wantError)
	}
	for _, d := range l {
		if d.Kind != api.DeclData || tab == nil {
			continue
		}
		names := tab.Cons(d.Name)
		if n, ok := tab.Arity(d.Name); !ok || n != len(d.Params) || len(names) != len(d.Cons) {
			t.Fatalf("%q: %s has %d, %v, %q", syntax.Print(l), d.Name, n, ok, names)
		}
		for tag := range d.Cons {
			c, ok := tab.Con(names[tag])
			if told := conAsTold(d, tag); !ok || !isSameCon(c, told) {
				t.Fatalf("%q: %s %s, %v, not %s %s", syntax.Print(l), c.Name, shown(c), ok, told.Name, shown(told))
			}
			if made := madeOf(c); !turned(made).Same(turned(c.T)) {
				t.Fatalf("%q: %s, of which %q comes", syntax.Print(l), shown(c), made.Print())
			}
		}
	}
	return e
}

// allMet asks whether each error was met often enough.
func allMet(t *testing.T, met map[api.Errno]int, least int) {
	t.Helper()
	for _, e := range []api.Errno{api.OK, api.ErrKind, api.ErrOpen, api.ErrResult} {
		if met[e] < least {
			t.Errorf("%v was met %d times", e, met[e])
		}
	}
}

// small are all types of at most so many parts within one another, of few names.
func small(deep int) []types.Type {
	con := func(name string, args ...types.Type) types.Type {
		return types.Type{Kind: api.Con, Name: name, Args: args}
	}
	l := []types.Type{{Kind: api.Var, Name: "a"}, {Kind: api.Var, Name: "b"}, con("N"), con("Any")}
	if deep == 1 {
		return append(l, con("M"), con("L"), types.Type{Kind: api.Meta, N: 1})
	}
	less := small(deep - 1)
	for _, x := range less {
		l = append(l, con("L", x), types.Type{Kind: api.All, Name: "a", Args: []types.Type{x}}, types.Type{Kind: api.All, Name: "b", Args: []types.Type{x}})
		for _, y := range less {
			l = append(l, types.Type{Kind: api.Fun, Args: []types.Type{x, y}}, con("T", x, y))
		}
	}
	return l
}

const few = "data N {}; data L a {}; data T a b {}"

// K2: of all small types.
func TestSmallGood(t *testing.T) {
	l, tab := parsed(t, few), table(t, few)
	met := map[api.Errno]int{}
	for _, u := range small(3) {
		e := good(l, u)
		met[e]++
		if got := tab.Good(u); got != e {
			t.Errorf("Good(%q): %v, not %v", u.Print(), got, e)
		}
	}
	if met[api.OK] < 500 || met[api.ErrOpen] < 500 || met[api.ErrKind] < 500 {
		t.Error(met)
	}
}

// K1, K3, K4: of all constructors of small types, as they are, and for all of names.
func TestSmallTypes(t *testing.T) {
	l := parsed(t, few+"; f : N; f = f")
	met := map[api.Errno]int{}
	for _, u := range small(3) {
		for _, names := range []string{"", "a", "ba", "aab"} {
			k := u
			for _, name := range names {
				k = types.Type{Kind: api.All, Name: string(name), Args: []types.Type{k}}
			}
			l[2].Cons, l[3].T = []syntax.Con{{Name: "K", T: k}}, typ(t, "N")
			met[isAsTold(t, l)]++
			l[2].Cons, l[3].T = nil, k
			isAsTold(t, l)
		}
	}
	allMet(t, met, 500)
}

// K1, K3, K4: of all constructors of few small indices, and of few arguments.
func TestSmallIndices(t *testing.T) {
	texts := []string{"a", "b", "N", "(L a)", "(L b)", "(a -> b)", "(T a b)", "(L (L a))"}
	args := []string{"", "a -> ", "b -> a -> ", "L b -> (a -> b) -> ", "(forall a. a -> b) -> ", "(forall u0 e0. T u0 (T e0 a)) -> N -> "}
	for _, x := range texts {
		for _, y := range texts {
			for _, ahead := range args {
				for _, names := range []string{"a b", "b a", "a b c", "c b d a", "a a b", "u1 b e0 p0 a"} {
					if e := isAsTold(t, parsed(t, strings.Replace(few, "a b {}", "a b {K : forall "+names+". "+ahead+"T "+x+" "+y+"}", 1))); e != api.OK {
						t.Fatal(x, y, ahead, names, e)
					}
				}
			}
		}
	}
}

// maker makes programs, the same ones each time.
type maker struct{ *rand.Rand }

func newMaker(seed int64) maker { return maker{rand.New(rand.NewSource(seed))} }

func pick[T any](m maker, l ...T) T { return l[m.Intn(len(l))] }

// data is what a made program declares.
type data struct {
	name  string
	arity int
}

// typ is a type in which names may stand; seldom it is not as it may be.
func (m maker) typ(room int, all []data, names []string, poly bool) string {
	if m.Intn(150) == 0 {
		return pick(m, "?1", "U", "z", "Any N", "(forall z. z)")
	}
	if kind := m.Intn(8); room == 0 || kind == 0 {
		return pick(m, append([]string{"Any"}, slices.Concat(names, names, names)...)...)
	} else if kind == 1 && poly {
		name := pick(m, "a", "b", "u0", "u1", "e0", "p0", "p1", "x0")
		return "(forall " + name + ". " + m.typ(room-1, all, append(slices.Clone(names), name), true) + ")"
	} else if kind < 5 {
		return "(" + m.typ(room-1, all, names, poly) + " -> " + m.typ(room-1, all, names, poly) + ")"
	}
	return "(" + m.applied(pick(m, all...), func() string { return m.typ(room-1, all, names, poly) }) + ")"
}

// applied is data with arguments, but seldom as many as it has.
func (m maker) applied(d data, arg func() string) string {
	s := d.name
	for range d.arity {
		s += " " + arg()
	}
	if m.Intn(150) == 0 {
		s += " Any"
	}
	return s
}

// con is a constructor's type.
func (m maker) con(d data, all []data) string {
	names := []string{"a", "b", "c", "d", "u0", "u1", "e1", "p1", "a", "g0", "x1"}
	m.Shuffle(len(names), func(i, k int) { names[i], names[k] = names[k], names[i] })
	names = names[:m.Intn(6)]
	s := ""
	if len(names) > 0 {
		s = "forall " + strings.Join(names, " ") + ". "
	}
	for range m.Intn(4) {
		s += m.typ(3, all, names, true) + " -> "
	}
	if m.Intn(25) == 0 {
		d = pick(m, all...)
	}
	return s + m.applied(d, func() string { return m.typ(m.Intn(3), all, names, false) })
}

// program is a text of few declarations.
func (m maker) program() string {
	var all []data
	for i := range 1 + m.Intn(4) {
		all = append(all, data{"D" + strconv.Itoa(i), m.Intn(4)})
	}
	var l []string
	for i, d := range all {
		var cons []string
		for k := range m.Intn(4) {
			cons = append(cons, "K"+strconv.Itoa(i)+strconv.Itoa(k)+" : "+m.con(d, all))
		}
		params := strings.Join([]string{" a", " b", " c"}[:d.arity], "")
		l = append(l, "data "+d.name+params+" {"+strings.Join(cons, "; ")+"}")
	}
	for i := range m.Intn(3) {
		f := "f" + strconv.Itoa(i)
		l = append(l, f+" = "+f, f+" : forall a b. "+m.typ(3, all, []string{"a", "b"}, true))
	}
	m.Shuffle(len(l), func(i, k int) { l[i], l[k] = l[k], l[i] })
	return strings.Join(l, "; ")
}

// K1 to K4: of many programs.
func TestManyPrograms(t *testing.T) {
	m := newMaker(1)
	met := map[api.Errno]int{}
	for range 30000 {
		l, e := syntax.Parse(m.program())
		if e != api.OK {
			continue
		}
		if name, e := scope.Check(l); e != api.OK {
			t.Fatal(syntax.Print(l), name, e)
		}
		met[isAsTold(t, l)]++
	}
	allMet(t, met, 1500)
}

// K1 to K4: whatever the program is, what is told of it is what the chapter says.
func FuzzNew(f *testing.F) {
	for _, s := range []string{"", example, "data T a {K : T}", "data T {K : forall b. b}; f : a; f = f", "data T a b {K : forall a b c. (forall u0. u0 -> a) -> T (T c b) b; L : forall a. T a a; M : T Any (Any -> Any)}"} {
		f.Add(s)
	}
	f.Fuzz(func(t *testing.T, s string) {
		l, e := syntax.Parse(s)
		if e != api.OK {
			return
		}
		if _, e := scope.Check(l); e == api.OK {
			isAsTold(t, l)
		}
	})
}
