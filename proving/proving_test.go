package proving_test

import (
	"slices"
	"strconv"
	"testing"

	"savant/api"
	"savant/proving"
	"savant/sharing"
	"savant/types"
)

// co is a coercion of a kind of its own.
type co struct {
	kind int
	name string
	n    int
	t    string
	kids []co
}

func of(kind int, kids ...co) co { return co{kind: kind, kids: kids} }

func named(kind int, name string, kids ...co) co { return co{kind: kind, name: name, kids: kids} }

func refl(t string) co { return co{kind: api.CoRefl, t: t} }

func inst(k co, t string) co { return co{kind: api.CoInst, t: t, kids: []co{k}} }

func nth(n int, k co) co { return co{kind: api.CoNth, n: n, kids: []co{k}} }

// broken is thrown where something is not as a rule asks.
type broken struct{}

func must(ok bool) {
	if !ok {
		panic(broken{})
	}
}

func parsed(t *testing.T, s string) types.Type {
	t.Helper()
	u, e := types.Parse(s)
	if e != api.OK {
		t.Fatalf("Parse(%q): %v", s, e)
	}
	return u
}

// asked is what a prover asked.
type asked struct{ types, cons []string }

// said is what a coercion says, where the given c says that a is Int: nothing, if it is broken. There is no T that is applied to three.
func said(t *testing.T, c co) (text string, a asked) {
	t.Helper()
	p := &proving.Prover[co]{Scope: sharing.Pool{}.Scope(), Must: must}
	p.Parts = func(c co) proving.Parts[co] {
		x := proving.Parts[co]{Kind: c.kind, Name: c.name, N: c.n, Kids: c.kids}
		if c.t != "" {
			x.T = parsed(t, c.t)
		}
		return x
	}
	given := proving.Sides{L: p.Lay(parsed(t, "a"), nil), R: p.Lay(parsed(t, "Int"), nil)}
	p.Given = func(name string) proving.Sides {
		must(name == "c")
		return given
	}
	p.TypeOf = func(u types.Type) *sharing.Node {
		a.types = append(a.types, u.Print()+" "+strconv.FormatBool(p.Binds("a")))
		n, ok := p.Type(u)
		must(ok)
		return n
	}
	p.MustBeCon = func(name string, args int) {
		a.cons = append(a.cons, name+" "+strconv.Itoa(args))
		must(args < 3)
	}
	defer func() {
		if thrown := recover(); thrown != nil && thrown != (broken{}) {
			panic(thrown)
		}
	}()
	s := p.Says(c)
	w := p.Writer()
	return w.Type(s.L, 0).Canon() + " ~ " + w.Type(s.R, 0).Canon(), a
}

// Each kind says what its rule tells, and nothing where that asks for something else.
func TestRules(t *testing.T) {
	c := named(api.CoVar, "c")
	for want, l := range map[string][]co{
		"a ~ Int":           {c, of(api.CoTrans, c, refl("Int")), nth(0, of(api.CoFun, c, c)), nth(1, named(api.CoCon, "T", refl("b"), c)), inst(named(api.CoAll, "b", c), "V")},
		"Int ~ a":           {of(api.CoSym, c), of(api.CoSym, of(api.CoSym, of(api.CoSym, c)))},
		"b ~ b":             {refl("b"), nth(0, refl("b -> T")), inst(refl("forall e. e"), "b"), inst(inst(refl("forall e f. e"), "b"), "V")},
		"T a b ~ T Int b":   {named(api.CoCon, "T", c, refl("b"))},
		"a -> b ~ Int -> b": {of(api.CoFun, c, refl("b"))},
		"forall x0. x0 -> a ~ forall x0. x0 -> Int":       {named(api.CoAll, "a", of(api.CoFun, refl("a"), c)), named(api.CoAll, "e", of(api.CoFun, refl("e"), c))},
		"forall x0 x1. x1 -> x0 ~ forall x0 x1. x1 -> x0": {named(api.CoAll, "a", named(api.CoAll, "e", refl("e -> a")))},
		"V -> b ~ V -> b": {inst(inst(named(api.CoAll, "a", named(api.CoAll, "e", refl("e -> a"))), "b"), "V")},
		"":                {named(api.CoVar, "d"), of(api.CoTrans, c, c), nth(1, named(api.CoCon, "T", c)), nth(-1, of(api.CoFun, c, c)), nth(0, c), nth(0, refl("forall e. e")), inst(c, "b"), inst(inst(refl("forall e. e"), "b"), "V"), named(api.CoCon, "T", c, c, c), nth(0, named(api.CoCon, "T", c, c, c))},
	} {
		for i, x := range l {
			if got, _ := said(t, x); got != want {
				t.Errorf("%d: %q, not %q", i, got, want)
			}
		}
	}
}

// Coercions that have not as many kids as one of their kind, and those of no kind, say nothing.
func TestKids(t *testing.T) {
	kids := map[int][]int{api.CoVar: {0, 1, 2, 3}, api.CoRefl: {0, 1, 2, 3}, api.CoSym: {1}, api.CoTrans: {2}, api.CoCon: {0, 1, 2}, api.CoFun: {2}, api.CoAll: {1}, api.CoNth: {1}, api.CoInst: {1}}
	for kind := -1; kind <= 10; kind++ {
		for n := range 4 {
			x := co{kind: kind, name: "c", t: "V", kids: slices.Repeat([]co{refl("forall a. a -> a")}, n)}
			if kind == api.CoNth {
				x.kids = slices.Repeat([]co{refl("V -> V")}, n)
			}
			for _, x := range []co{x, of(api.CoSym, x), named(api.CoAll, "b", x)} {
				if got, _ := said(t, x); (got != "") != slices.Contains(kids[kind], n) {
					t.Errorf("kind %d with %d kids: %q", kind, n, got)
				}
			}
		}
	}
}

// All types that stand in a coercion are asked for, while the names of the coercions for all around them are bound; and all constructors.
func TestAsked(t *testing.T) {
	x := of(api.CoFun, inst(named(api.CoAll, "a", named(api.CoCon, "T", refl("a"), inst(refl("forall b. b"), "a -> b"))), "a"), named(api.CoCon, "U"))
	got, a := said(t, x)
	if want := "T a (a -> b) -> U ~ T a (a -> b) -> U"; got != want {
		t.Errorf("%q, not %q", got, want)
	}
	slices.Sort(a.types)
	if want := []string{"a -> b true", "a false", "a true", "forall b. b true"}; !slices.Equal(a.types, want) {
		t.Errorf("%q, not %q", a.types, want)
	}
	slices.Sort(a.cons)
	if want := []string{"T 2", "U 0"}; !slices.Equal(a.cons, want) {
		t.Errorf("%q, not %q", a.cons, want)
	}
}
