package coerce_test

import (
	"reflect"
	"slices"
	"strconv"
	"testing"

	"savant/api"
	"savant/coerce"
	"savant/types"
)

const nothing = "nothing"

// says asks what a coercion says by givens.
func says(t *testing.T, gs, s, want string) {
	t.Helper()
	if got := told(coerce.Says(givens(t, gs), parsed(t, s))); got != want {
		t.Errorf("%q says %q by %q, not %q", s, got, gs, want)
	}
}

// E2: the chapter's examples.
func TestExamples(t *testing.T) {
	for _, x := range [][2]string{
		{"(Trans (Sym c) <a>)", "Int ~ a"},
		{"(Nth 0 (Trans d <T b>))", "a ~ b"},
		{"(Con P c (Fun <U> (Sym c)))", "P a (U -> Int) ~ P Int (U -> a)"},
		{"(All e (Fun <e> c))", "forall x0. x0 -> a ~ forall x0. x0 -> Int"},
		{"(All a (Fun <a> c))", "forall x0. x0 -> a ~ forall x0. x0 -> Int"},
		{"(Inst <forall e. e -> e> <Int>)", "Int -> Int ~ Int -> Int"},
		{"(Trans c c)", nothing},
		{"(Nth 1 d)", nothing},
		{"x", nothing},
	} {
		says(t, "c: a ~ Int, d: T a ~ T b", x[0], x[1])
	}
}

// E2: the last given of a name; none of another one, and none of the names of types.
func TestGivens(t *testing.T) {
	says(t, "", "c", nothing)
	says(t, "c: a ~ b", "a", nothing)
	says(t, "c: a ~ b", "cc", nothing)
	says(t, "c: a ~ b", "c", "a ~ b")
	says(t, "c: a ~ b, c: b ~ U", "c", "b ~ U")
	says(t, "c: a ~ b, d: Int ~ U, c: b ~ a, d: U ~ Int", "(Fun c d)", "b -> U ~ a -> Int")
	says(t, "c: ?1 ~ ?2 -> T", "c", "?1 ~ ?2 -> T")
	says(t, "c: forall a. a -> b ~ b", "(Sym c)", "b ~ forall x0. x0 -> b")
	for _, none := range [][]coerce.Given{nil, {}} {
		if got := told(coerce.Says(none, parsed(t, "(Con T <a> (Con U))"))); got != "T a U ~ T a U" {
			t.Error(got)
		}
		if got := told(coerce.Says(none, given("c"))); got != nothing {
			t.Error(got)
		}
	}
}

// E2: what is built of kids.
func TestBuilt(t *testing.T) {
	const gs = "c: a ~ Int, d: T a ~ U b c"
	for _, x := range [][2]string{
		{"<a>", "a ~ a"},
		{"<forall b. b -> ?3>", "forall x0. x0 -> ?3 ~ forall x0. x0 -> ?3"},
		{"(Sym c)", "Int ~ a"},
		{"(Sym (Sym c))", "a ~ Int"},
		{"(Sym <T a>)", "T a ~ T a"},
		{"(Sym (Fun c (Sym c)))", "Int -> a ~ a -> Int"},
		{"(Con T)", "T ~ T"},
		{"(Con T c)", "T a ~ T Int"},
		{"(Con T c d (Sym c))", "T a (T a) Int ~ T Int (U b c) a"},
		{"(Con T (Con T (Con T c)))", "T (T (T a)) ~ T (T (T Int))"},
		{"(Con Sym (Con Con))", "Sym Con ~ Sym Con"},
		{"(Fun c d)", "a -> T a ~ Int -> U b c"},
		{"(Fun (Fun c c) c)", "(a -> a) -> a ~ (Int -> Int) -> Int"},
		{"(Fun <forall a. a> (Fun c <b>))", "(forall x0. x0) -> a -> b ~ (forall x0. x0) -> Int -> b"},
		{"(Sym x)", nothing},
		{"(Con T c x)", nothing},
		{"(Con T x c)", nothing},
		{"(Fun c x)", nothing},
		{"(Fun x c)", nothing},
		{"(Con T c (Con T (Fun <a> (Sym x))))", nothing},
	} {
		says(t, gs, x[0], x[1])
	}
}

// E2: Trans asks that the types between are the same, but for names that are bound, by no given.
func TestTrans(t *testing.T) {
	const gs = "c: a ~ Int, d: Int ~ T b, e: forall a. a -> b ~ U, f: U ~ forall c. c -> b"
	for _, x := range [][2]string{
		{"(Trans c d)", "a ~ T b"},
		{"(Trans (Sym d) (Sym c))", "T b ~ a"},
		{"(Trans c (Trans d <T b>))", "a ~ T b"},
		{"(Trans (Trans <a> c) d)", "a ~ T b"},
		{"(Trans c (Sym c))", "a ~ a"},
		{"(Trans <a> <a>)", "a ~ a"},
		{"(Trans f e)", "U ~ U"},
		{"(Trans e f)", "forall x0. x0 -> b ~ forall x0. x0 -> b"},
		{"(Trans f <forall z. z -> b>)", "U ~ forall x0. x0 -> b"},
		{"(Trans <forall x y. x -> y> <forall y x. y -> x>)", "forall x0 x1. x0 -> x1 ~ forall x0 x1. x0 -> x1"},
		{"(Trans (All a (Fun <a> <b>)) e)", "forall x0. x0 -> b ~ U"},
		{"(Trans (Fun c d) (Fun d (Sym d)))", "a -> Int ~ T b -> Int"},
		{"(Trans <?1> <?1>)", "?1 ~ ?1"},
		{"(Trans c c)", nothing},
		{"(Trans d c)", nothing},
		{"(Trans c <a>)", nothing},
		{"(Trans <a> <b>)", nothing},
		{"(Trans <a> <A>)", nothing},
		{"(Trans <?1> <?2>)", nothing},
		{"(Trans <?1> <Int>)", nothing},
		{"(Trans <T> <T a>)", nothing},
		{"(Trans <T a> <U a>)", nothing},
		{"(Trans <T a b> <T a a>)", nothing},
		{"(Trans <a -> b> <b -> a>)", nothing},
		{"(Trans <T a b> <a -> b>)", nothing},
		{"(Trans f <forall z. z -> a>)", nothing},
		{"(Trans f <forall b. b -> b>)", nothing},
		{"(Trans <forall x y. x> <forall x y. y>)", nothing},
		{"(Trans <forall x y. Int> <forall x. Int>)", nothing},
		{"(Trans <forall x. x> <x>)", nothing},
		{"(Trans (All a c) (All b c))", nothing},
		{"(Trans x c)", nothing},
		{"(Trans c x)", nothing},
		{"(Fun (Trans c c) c)", nothing},
		{"(Sym (Con T c (Trans d d)))", nothing},
	} {
		says(t, gs, x[0], x[1])
	}
}

// E2: that types are the same does not hang on what else there is, however much that is.
func TestManyTypesAreKeptApart(t *testing.T) {
	var names []coerce.Co
	for i := range 130 {
		names = append(names, refl(v("n"+strconv.Itoa(i))))
	}
	isKeptApart := func(l, r types.Type) {
		c := nth(0, ofCon("T", append(names, of(api.CoTrans, refl(l), refl(r)))...))
		if got := told(coerce.Says(nil, c)); (got != nothing) != l.Same(r) {
			t.Errorf("%q and %q: %q", l.Print(), r.Print(), got)
		}
	}
	some := []int{0, 1, 2, 10, 11, 12, 21, 22, 100, 101, 111, 121}
	for _, i := range some {
		for _, j := range some {
			pair := con("P", names[i].T, names[j].T)
			for _, k := range some {
				isKeptApart(pair, con("P", names[k].T))
				isKeptApart(pair, con("P", names[j].T, names[k].T))
			}
			isKeptApart(pair, con("P", names[i*10%130].T, names[j/10].T))
			isKeptApart(pair, con("P", names[i/10].T, names[(i*10+j)%130].T))
		}
	}
}

// E2: All puts a name that stands nowhere else into the coercion's types, not into the givens', nor into another All of it.
func TestAll(t *testing.T) {
	const gs = "c: a ~ b, d: forall a. a -> b ~ T x0"
	for _, x := range [][2]string{
		{"(All e c)", "forall x0. a ~ forall x0. b"},
		{"(All a c)", "forall x0. a ~ forall x0. b"},
		{"(All b (Fun c <b>))", "forall x0. a -> x0 ~ forall x0. b -> x0"},
		{"(All a (Fun c <a>))", "forall x0. a -> x0 ~ forall x0. b -> x0"},
		{"(All a <a>)", "forall x0. x0 ~ forall x0. x0"},
		{"(All a <b>)", "forall x0. b ~ forall x0. b"},
		{"(All a <?1>)", "forall x0. ?1 ~ forall x0. ?1"},
		{"(All a <forall a. a>)", "forall x0 x1. x1 ~ forall x0 x1. x1"},
		{"(All a <forall b. T a b>)", "forall x0 x1. T x0 x1 ~ forall x0 x1. T x0 x1"},
		{"(All a <a -> forall a. a>)", "forall x0. x0 -> forall x1. x1 ~ forall x0. x0 -> forall x1. x1"},
		{"(All a (All b <a -> b>))", "forall x0 x1. x0 -> x1 ~ forall x0 x1. x0 -> x1"},
		{"(All a (All b <b -> a>))", "forall x0 x1. x1 -> x0 ~ forall x0 x1. x1 -> x0"},
		{"(All a (All a <a>))", "forall x0 x1. x1 ~ forall x0 x1. x1"},
		{"(All a (Fun <a> (All a <a>)))", "forall x0. x0 -> forall x1. x1 ~ forall x0. x0 -> forall x1. x1"},
		{"(All a (Fun (All a <a>) <a>))", "forall x0. (forall x1. x1) -> x0 ~ forall x0. (forall x1. x1) -> x0"},
		{"(All a (Fun (All b <b -> a>) (All b <a -> b>)))", "forall x0. (forall x1. x1 -> x0) -> forall x2. x0 -> x2 ~ forall x0. (forall x1. x1 -> x0) -> forall x2. x0 -> x2"},
		{"(Fun (All a <a>) <a>)", "(forall x0. x0) -> a ~ (forall x0. x0) -> a"},
		{"(Fun <a> (All a <a>))", "a -> forall x0. x0 ~ a -> forall x0. x0"},
		{"(All x0 (Fun d <x0>))", "forall x0. (forall x1. x1 -> b) -> x0 ~ forall x1. T x0 -> x1"},
		{"(All e (Con P <x0> <e> <x1>))", "forall x2. P x0 x2 x1 ~ forall x2. P x0 x2 x1"},
		{"(All c (Fun c <c>))", "forall x0. a -> x0 ~ forall x0. b -> x0"},
		{"(All a (Sym (Fun <a> c)))", "forall x0. x0 -> b ~ forall x0. x0 -> a"},
		{"(All a (Trans <a> <a>))", "forall x0. x0 ~ forall x0. x0"},
		{"(All a (Inst <forall b. b -> a> <a>))", "forall x0. x0 -> x0 ~ forall x0. x0 -> x0"},
		{"(All a (Inst d <a>))", nothing},
		{"(All a (Trans <a> c))", nothing},
		{"(All a (Trans (Sym c) <a>))", nothing},
		{"(All e (Trans <e> <a>))", nothing},
		{"(All a (Nth 0 <a>))", nothing},
		{"(All a (All b (Trans <a> <b>)))", nothing},
		{"(All a x)", nothing},
		{"(All x x)", nothing},
	} {
		says(t, gs, x[0], x[1])
	}
}

// E2: Nth takes apart constructors of one name with as many arguments, and functions; nothing else.
func TestNth(t *testing.T) {
	const gs = "c: T a b ~ T Int U, d: a -> b -> c ~ Int -> U, e: T a ~ U a, f: T a ~ T a b, g: forall a. a ~ forall a. T a, h: a ~ T a, i: T a b ~ a -> b, j: T ~ T"
	for _, x := range [][2]string{
		{"(Nth 0 c)", "a ~ Int"},
		{"(Nth 1 c)", "b ~ U"},
		{"(Nth 0 (Sym c))", "Int ~ a"},
		{"(Nth 0 d)", "a ~ Int"},
		{"(Nth 1 d)", "b -> c ~ U"},
		{"(Nth 2 (Con T c d e))", "T a ~ U a"},
		{"(Nth 0 (Nth 1 (Fun e (Con P c d))))", "T a b ~ T Int U"},
		{"(Nth 0 <T (forall a. a)>)", "forall x0. x0 ~ forall x0. x0"},
		{"(Nth 2 c)", nothing},
		{"(Nth 999999 c)", nothing},
		{"(Nth 2 d)", nothing},
		{"(Nth 0 e)", nothing},
		{"(Nth 0 f)", nothing},
		{"(Nth 0 g)", nothing},
		{"(Nth 0 h)", nothing},
		{"(Nth 0 (Sym h))", nothing},
		{"(Nth 0 i)", nothing},
		{"(Nth 0 (Sym i))", nothing},
		{"(Nth 0 j)", nothing},
		{"(Nth 0 <a>)", nothing},
		{"(Nth 0 <?1>)", nothing},
		{"(Nth 0 <forall a. a>)", nothing},
		{"(Nth 0 (All a <a>))", nothing},
		{"(Nth 0 (Nth 0 c))", nothing},
		{"(Nth 0 x)", nothing},
	} {
		says(t, gs, x[0], x[1])
	}
	for _, n := range []int{-1, -1 << 63, 2, 1<<63 - 1} {
		if got := told(coerce.Says(givens(t, gs), nth(n, given("c")))); got != nothing {
			t.Errorf("Nth %d says %q", n, got)
		}
	}
}

// E2: Inst puts a type in the place of the first name that is bound on either side, and binds nothing that is free in it.
func TestInst(t *testing.T) {
	const gs = "c: forall a. a -> b ~ forall b. T b, d: forall a b. a -> b ~ forall c d. T c d, e: forall a. a ~ U, f: U ~ forall a. a, g: forall a. forall b. T a b ~ forall b. forall a. T a b"
	for _, x := range [][2]string{
		{"(Inst c <Int>)", "Int -> b ~ T Int"},
		{"(Inst c <a>)", "a -> b ~ T a"},
		{"(Inst c <b>)", "b -> b ~ T b"},
		{"(Inst c <forall a. a -> b>)", "(forall x0. x0 -> b) -> b ~ T (forall x0. x0 -> b)"},
		{"(Inst (Sym c) <?1>)", "T ?1 ~ ?1 -> b"},
		{"(Inst d <Int>)", "forall x0. Int -> x0 ~ forall x0. T Int x0"},
		{"(Inst d <b>)", "forall x0. b -> x0 ~ forall x0. T b x0"},
		{"(Inst d <b -> d>)", "forall x0. (b -> d) -> x0 ~ forall x0. T (b -> d) x0"},
		{"(Inst (Inst d <Int>) <U>)", "Int -> U ~ T Int U"},
		{"(Inst (Inst d <d>) <c>)", "d -> c ~ T d c"},
		{"(Inst (Inst g <Int>) <U>)", "T Int U ~ T U Int"},
		{"(Inst (Inst g <b>) <a>)", "T b a ~ T a b"},
		{"(Inst <forall a. forall a. a> <b>)", "forall x0. x0 ~ forall x0. x0"},
		{"(Inst <forall a. Int> <b>)", "Int ~ Int"},
		{"(Inst <forall a. a> <forall a. a>)", "forall x0. x0 ~ forall x0. x0"},
		{"(Inst (Inst <forall a. a> <forall b. b -> a>) <Int>)", "Int -> a ~ Int -> a"},
		{"(Inst <forall a. a -> forall b. a -> b> <b>)", "b -> forall x0. b -> x0 ~ b -> forall x0. b -> x0"},
		{"(Inst (All a (Fun <a> <b>)) <T a>)", "T a -> b ~ T a -> b"},
		{"(Inst (All a (All b <a -> b>)) <b>)", "forall x0. b -> x0 ~ forall x0. b -> x0"},
		{"(All b (Inst (All a (Fun <a> <b>)) <b -> a>))", "forall x0. (x0 -> a) -> x0 ~ forall x0. (x0 -> a) -> x0"},
		{"(Inst (All a (Inst (All a (Fun <a> <a>)) <T a>)) <U>)", "T U -> T U ~ T U -> T U"},
		{"(All a (Inst <forall b. a -> b> <forall c. c -> a>))", "forall x0. x0 -> forall x1. x1 -> x0 ~ forall x0. x0 -> forall x1. x1 -> x0"},
		{"(All a (Inst (Inst d <a>) <a>))", "forall x0. x0 -> x0 ~ forall x0. T x0 x0"},
		{"(Inst e <a>)", nothing},
		{"(Inst f <a>)", nothing},
		{"(Inst <a> <a>)", nothing},
		{"(Inst <?1> <a>)", nothing},
		{"(Inst <T (forall a. a)> <a>)", nothing},
		{"(Inst (Inst c <a>) <a>)", nothing},
		{"(Inst (Inst (Inst d <a>) <a>) <a>)", nothing},
		{"(Inst x <a>)", nothing},
		{"(Inst (All a (Nth 0 <a>)) <T a>)", nothing},
	} {
		says(t, gs, x[0], x[1])
	}
}

// E2: types that are said as they were written keep their names.
func TestNamesThatStay(t *testing.T) {
	gs := givens(t, "c: forall b. b -> a ~ T (forall b c. c -> forall b. b)")
	for s, want := range map[string][2]string{
		"<forall b a. a>":             {"forall b a. a", "forall b a. a"},
		"c":                           {"forall b. b -> a", "T (forall b c. c -> forall b. b)"},
		"(Fun <x> (Sym c))":           {"x -> T (forall b c. c -> forall b. b)", "x -> forall b. b -> a"},
		"(Nth 0 <T (forall x0. x0)>)": {"forall x0. x0", "forall x0. x0"},
	} {
		l, r, e := coerce.Says(gs, parsed(t, s))
		if e != api.OK || l.Print() != want[0] || r.Print() != want[1] {
			t.Errorf("%q says %q ~ %q, %v", s, l.Print(), r.Print(), e)
		}
	}
}

// E2: what is said is written with words that chapter 1 has, however many names are bound, and can be read again.
func TestSaidIsWritable(t *testing.T) {
	const gs = "c: x0 ~ forall x1. x1 -> x2"
	for _, s := range []string{"(All x0 (Fun c <x0 -> x3>))", "(All a (All b (All c (Con T <a> <b> <c> c))))", "(All a (Inst (All b <forall d. T a b d>) <x4>))"} {
		l, r, e := coerce.Says(givens(t, gs), parsed(t, s))
		if e != api.OK {
			t.Fatal(s, e)
		}
		for _, x := range []types.Type{l, r} {
			if again, e := types.Parse(x.Print()); e != api.OK || !again.Same(x) {
				t.Errorf("%q says %q", s, x.Print())
			}
		}
	}
}

// R6: two calls answer alike.
func TestAnswersAlike(t *testing.T) {
	gs := givens(t, "c: a ~ b, d: b ~ a, e: x0 ~ x1, c: T a ~ T b")
	c := parsed(t, "(All a (All b (Con T c d e <a> <b> <forall z. z> <x2> (Inst (All q <x3 -> q>) <a>))))")
	var all []types.Type
	for range 30 {
		l, r, _ := coerce.Says(gs, c)
		all = append(all, l, r)
	}
	for i := 2; i < len(all); i++ {
		if !reflect.DeepEqual(all[i], all[i-2]) {
			t.Fatalf("%q, and then %q", all[i-2].Print(), all[i].Print())
		}
	}
}

// R1: of trees that may not be nothing is promised but that each call ends, and does not panic.
func TestOddTrees(t *testing.T) {
	a, c := v("a"), given("c")
	oddTypes := []types.Type{{}, a, {Kind: -1, N: 3}, {Kind: -2, N: 1}, {Kind: 6, Args: []types.Type{a}}, {Kind: api.Fun}, {Kind: api.All, Name: "a"}, {Kind: api.Fun, Args: []types.Type{a}}, {Kind: api.Fun, Args: []types.Type{a, a, a}}, {Kind: api.All, Name: "a", Args: []types.Type{a, a}}, {Kind: api.Var, Name: "a", Args: []types.Type{a}}, {Kind: api.Meta, N: -1, Args: []types.Type{a}}}
	for _, x := range oddTypes {
		oddTypes = append(oddTypes, con("T", a, x), all("a", x))
	}
	var odd []coerce.Co
	for kind := -1; kind <= 10; kind++ {
		for n := range 4 {
			odd = append(odd, coerce.Co{Kind: kind, Name: "a", N: n - 1, Kids: slices.Repeat([]coerce.Co{c}, n)}, coerce.Co{Kind: kind, T: oddTypes[n], Kids: slices.Repeat([]coerce.Co{refl(all("a", a))}, n)})
		}
	}
	for _, x := range oddTypes {
		odd = append(odd, refl(x), inst(refl(all("a", a)), x), inst(refl(x), a), nth(0, refl(x)), ofAll("a", refl(x)))
	}
	for _, k := range odd {
		odd = append(odd, of(api.CoSym, k), ofAll("a", k), inst(ofAll("a", k), a), nth(0, ofCon("T", k)))
	}
	for _, k := range odd {
		k.Print()
		for _, x := range oddTypes {
			coerce.Says([]coerce.Given{{Name: "c", L: x, R: a}}, k)
		}
	}
	if got := told(coerce.Says(nil, of(api.CoSym))); got != nothing {
		t.Errorf("Sym of nothing says %q", got)
	}
}
