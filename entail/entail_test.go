package entail_test

import (
	"reflect"
	"slices"
	"strings"
	"testing"

	"savant/api"
	"savant/coerce"
	"savant/entail"
	"savant/lex"
	"savant/types"
)

func v(name string) types.Type { return types.Type{Kind: api.Var, Name: name} }

func meta(n int) types.Type { return types.Type{Kind: api.Meta, N: n} }

func con(name string, args ...types.Type) types.Type {
	return types.Type{Kind: api.Con, Name: name, Args: args}
}

func fun(from, to types.Type) types.Type {
	return types.Type{Kind: api.Fun, Args: []types.Type{from, to}}
}

func all(name string, body types.Type) types.Type {
	return types.Type{Kind: api.All, Name: name, Args: []types.Type{body}}
}

func parsed(t testing.TB, s string) types.Type {
	t.Helper()
	x, e := types.Parse(strings.TrimSpace(s))
	if e != api.OK {
		t.Fatalf("%q is no type: %v", s, e)
	}
	return x
}

// givens reads such as "c: a ~ Int, d: T a ~ T b".
func givens(t testing.TB, s string) []coerce.Given {
	t.Helper()
	var l []coerce.Given
	for _, g := range strings.Split(s, ",") {
		name, says, _ := strings.Cut(g, ":")
		left, right, ok := strings.Cut(says, "~")
		if ok {
			l = append(l, coerce.Given{Name: strings.TrimSpace(name), L: parsed(t, left), R: parsed(t, right)})
		} else if s != "" {
			t.Fatalf("%q is no given", g)
		}
	}
	return l
}

func written(gs []coerce.Given) string {
	var parts []string
	for _, g := range gs {
		parts = append(parts, g.Name+": "+g.L.Print()+" ~ "+g.R.Print())
	}
	return strings.Join(parts, ", ")
}

func errorName(e api.Errno) string {
	names := map[api.Errno]string{api.ErrArg: "arg", api.ErrPoly: "poly", api.ErrContra: "contra"}
	if name, ok := names[e]; ok {
		return name
	}
	return e.Error()
}

// told writes what Norm answers: a type, with canonical names, or the error's name.
func told(u types.Type, e api.Errno) string {
	switch {
	case e == api.OK:
		return u.Canon()
	case !reflect.DeepEqual(u, types.Type{}):
		return "a type beside an error"
	}
	return errorName(e)
}

// proved writes what Prove answers: whether l ~ r is proved, or the error's name. What is proved must be said by the proof, and the proof's text be read again.
func proved(t *testing.T, gs []coerce.Given, l, r types.Type) string {
	t.Helper()
	c, ok, e := entail.Prove(gs, l, r)
	switch {
	case (e != api.OK || !ok) && (ok || !reflect.DeepEqual(c, coerce.Co{})):
		return "a proof of nothing"
	case e != api.OK:
		return errorName(e)
	case !ok:
		return "not"
	}
	says(t, gs, c, l, r)
	return "proved"
}

// says asks whether c says l ~ r, and can be read.
func says(t *testing.T, gs []coerce.Given, c coerce.Co, l, r types.Type) {
	t.Helper()
	x, y, e := coerce.Says(gs, c)
	if e != api.OK || !x.Same(l) || !y.Same(r) {
		t.Errorf("by %q of %q ~ %q the proof is %q, which says %q ~ %q, %v", written(gs), l.Print(), r.Print(), c.Print(), x.Print(), y.Print(), e)
	}
	s := c.Print()
	tokens, _, e := lex.Scan(s)
	if again, rest, ok := coerce.Read(tokens); e == api.OK && (!ok || len(rest) > 0 || again.Print() != s) {
		t.Errorf("%q is no coercion", s)
	}
}

// isNorm asks for the Norm of a type; words of order are divided by blanks.
func isNorm(t *testing.T, gs, order, s, want string) {
	t.Helper()
	if got := told(entail.Norm(givens(t, gs), strings.Fields(order), parsed(t, s))); got != want {
		t.Errorf("by %q in the order %q Norm of %q is %q, not %q", gs, order, s, got, want)
	}
}

// isProved asks Prove for this answer, of such as "a ~ b", and of its two sides turned too.
func isProved(t *testing.T, gs, s, want string) {
	t.Helper()
	left, right, _ := strings.Cut(s, "~")
	l, r := parsed(t, left), parsed(t, right)
	if got := proved(t, givens(t, gs), l, r); got != want {
		t.Errorf("by %q %q is %q, not %q", gs, s, got, want)
	}
	if got := proved(t, givens(t, gs), r, l); got != want {
		t.Errorf("by %q %q turned is %q, not %q", gs, s, got, want)
	}
}

const some = "c: a ~ T b, d: b ~ Int, g: P x y ~ P y z"

// F1: the chapter's examples.
func TestExamplesOfNorm(t *testing.T) {
	isNorm(t, some, "", "a -> b", "T Int -> Int")
	isNorm(t, some, "", "z", "x")
	isNorm(t, some, "y", "z", "y")
	isNorm(t, some+", h: a ~ U", "", "z", "contra")
	isNorm(t, some+", h: x ~ T x", "", "z", "contra")
}

// F2: the chapter's examples.
func TestExamplesOfProve(t *testing.T) {
	isProved(t, some, "T a ~ T (T Int)", "proved")
	isProved(t, some, "x ~ z", "proved")
	isProved(t, some, "x ~ Int", "not")
	isProved(t, some+", h: a ~ U", "x ~ z", "contra")
	isProved(t, some+", h: x ~ T x", "x ~ z", "contra")
}

// F1: what could stand as something else than a variable does so, everywhere.
func TestWhatStandsForVariables(t *testing.T) {
	for _, x := range [][3]string{
		{"", "a", "a"},
		{"", "T a ?1 -> Int", "T a ?1 -> Int"},
		{"", "forall b a. a -> b -> c", "forall x0 x1. x1 -> x0 -> c"},
		{"c: a ~ Int", "a", "Int"},
		{"c: Int ~ a", "a", "Int"},
		{"c: a ~ Int", "b", "b"},
		{"c: a ~ Int", "T a b (a -> a)", "T Int b (Int -> Int)"},
		{"c: a ~ ?1", "a -> ?1 -> ?2", "?1 -> ?1 -> ?2"},
		{"c: T ?1 ~ T a", "a", "?1"},
		{"c: a ~ b -> d, d: b ~ T d, e: d ~ U", "a", "T U -> U"},
		{"c: d ~ U, d: b ~ T d, e: a ~ b -> d", "a", "T U -> U"},
		{"c: T a (b -> Int) ~ T (U d) (a -> d)", "T a b d", "T (U Int) (U Int) Int"},
		{"c: a ~ b, d: b ~ d, e: d ~ f, f: f ~ T g", "a -> b -> d -> f -> g", "T g -> T g -> T g -> T g -> g"},
		{"c: a ~ T b, d: a ~ T e, f: e ~ Int", "b", "Int"},
		{"c: a ~ T b, d: a ~ T e", "a -> b -> e", "T b -> b -> b"},
		{"c: a ~ P b d, d: a ~ P d Int", "a", "P Int Int"},
		{"c: P a (T a) ~ P (U b) d", "d", "T (U b)"},
		{"c: a -> b ~ T d -> U", "P a b", "P (T d) U"},
	} {
		isNorm(t, x[0], "", x[1], x[2])
	}
}

// F1: a variable that stays is the first one of those that are equal to it: by order, behind it by bytes.
func TestFirstVariable(t *testing.T) {
	const same = "c: m ~ k, d: T o ~ T m, e: l ~ o, f: n ~ n"
	for _, x := range [][3]string{
		{"", "k", "k"},
		{"", "T l m n o p", "T k k n k p"},
		{"l", "T k l m n o p", "T l l l n l p"},
		{"o l", "k", "o"},
		{"o l o", "k", "o"},
		{"l o l", "k", "l"},
		{"p n m k p", "T k o n", "T m m n"},
		{"a p n A Int", "T k o n", "T k k n"},
		{"forall", "m", "k"},
		{"p o n m l k", "m", "o"},
	} {
		isNorm(t, same, x[0], x[1], x[2])
	}
	isNorm(t, "c: x10 ~ x9, d: x9 ~ x2", "", "x9", "x10")
	isNorm(t, "c: aB ~ ab, d: ab ~ a_, e: a_ ~ a1", "", "ab", "a1")
	isNorm(t, "c: aB ~ ab, d: ab ~ a_", "", "ab", "aB")
	isNorm(t, "c: a ~ aa", "", "aa", "a")
	isNorm(t, "c: a ~ b, d: b ~ T e, f: e ~ g", "g b a", "a", "T g")
	if got := told(entail.Norm(givens(t, "c: a ~ b"), []string{"", "b", "\xff"}, v("a"))); got != "b" {
		t.Error(got)
	}
}

// F1: whatever the order of givens is, and whichever side comes first, the first variable is the same one.
func TestFirstVariableOfAnyOrder(t *testing.T) {
	gs := givens(t, "c: a ~ b, d: b ~ e, f: T e g ~ T g a")
	for range 2 {
		for i := range gs {
			for j := range gs {
				gs[i], gs[j] = gs[j], gs[i]
				for _, order := range [][]string{nil, {"b"}, {"g", "e"}, {"x", "e", "g"}} {
					want := append(slices.DeleteFunc(slices.Clone(order), func(name string) bool { return name == "x" }), "a")[0]
					for _, name := range []string{"a", "b", "e", "g"} {
						if got := told(entail.Norm(gs, order, v(name))); got != want {
							t.Errorf("by %q in the order %q Norm of %s is %s, not %s", written(gs), order, name, got, want)
						}
					}
				}
			}
		}
		for i, g := range gs {
			gs[i].L, gs[i].R = g.R, g.L
		}
	}
}

// F1: what is bound is not what the givens speak of, and binds nothing that is put.
func TestNormBehindForAlls(t *testing.T) {
	const gs = "c: a ~ Int, d: b ~ T e, f: e ~ g"
	for _, x := range [][2]string{
		{"forall a. a", "forall x0. x0"},
		{"forall a. a -> b", "forall x0. x0 -> T e"},
		{"forall e. e -> b", "forall x0. x0 -> T e"},
		{"forall e. e -> g", "forall x0. x0 -> e"},
		{"forall e b. T e b g", "forall x0 x1. T x0 x1 e"},
		{"(forall a. a) -> a", "(forall x0. x0) -> Int"},
		{"forall b. (forall e. P b e g) -> b", "forall x0. (forall x1. P x0 x1 e) -> x0"},
		{"forall g. (forall e. P b e g) -> b", "forall x0. (forall x1. P (T e) x1 x0) -> T e"},
		{"T (forall h. b) (forall e. a)", "T (forall x0. T e) (forall x1. Int)"},
		{"forall x0. b -> x0", "forall x0. T e -> x0"},
	} {
		isNorm(t, gs, "", x[0], x[1])
	}
	isNorm(t, "c: a ~ x0 -> x1, d: x2 ~ b", "x2", "forall x0. P x0 a b", "forall x3. P x3 (x0 -> x1) x2")
	isNorm(t, "c: a ~ b", "", "forall a. a -> b", "forall x0. x0 -> a")
}

// F1: names that are bound stay, where nothing else changes.
func TestNamesThatStay(t *testing.T) {
	const s = "T (forall b c. b -> forall b. c) (forall a a. a)"
	if u, e := entail.Norm(givens(t, "c: a ~ b, d: c ~ Int"), nil, parsed(t, s)); e != api.OK || u.Print() != s {
		t.Error(u.Print(), e)
	}
}

// F1, F2: givens that contradict one another: no types make both sides of each the same.
func TestContradictions(t *testing.T) {
	for _, gs := range []string{
		"c: Int ~ U", "c: T a ~ U a", "c: T a ~ T a b", "c: T ~ T a", "c: T a b ~ a -> b", "c: Int ~ a -> b", "c: a -> b ~ T a b",
		"c: a ~ T a", "c: T a ~ a", "c: a ~ T (U a)", "c: a ~ a -> b", "c: a ~ b -> a", "c: P a a ~ P b (T b)",
		"c: a ~ T b, d: b ~ T a", "c: a ~ T b, d: b ~ e, f: e ~ g -> a", "c: a ~ b, d: b ~ T a", "c: T a ~ T (T b), d: a ~ b",
		"c: a ~ Int, d: a ~ U", "c: a ~ Int, d: b ~ U, e: a ~ b", "c: a ~ b, d: b ~ e, f: a ~ Int, g: e ~ U",
		"c: a ~ T b, d: a ~ T e, f: b ~ Int, g: e ~ U", "c: P a b ~ P b Int, d: a ~ U", "c: T (U a) ~ T (U Int), d: a ~ b -> b",
		"c: ?1 ~ ?2", "c: ?1 ~ Int", "c: ?1 ~ T ?1", "c: a ~ ?1, d: a ~ ?2", "c: a ~ ?1, d: a ~ T b", "c: T ?1 a ~ T a ?2", "c: ?1 ~ a -> a",
		"c: a ~ b, d: T a Int ~ T b U", "c: P a (P b e) ~ P (T b) (P (T e) (T a))",
	} {
		isNorm(t, gs, "", "x", "contra")
		isProved(t, gs, "x ~ x", "contra")
		isProved(t, gs, "x ~ forall a. a", "contra")
	}
	for _, gs := range []string{
		"", "c: a ~ a", "c: Int ~ Int", "c: ?1 ~ ?1", "c: T a ?1 ~ T a ?1", "c: a -> b ~ a -> b", "c: a ~ T b, d: b ~ T e", "c: a ~ ?1, d: b ~ ?2", "c: a ~ T ?1",
		"c: a ~ b, d: b ~ a", "c: a ~ T b, d: T b ~ a, e: a ~ a", "c: a ~ Int, d: b ~ Int, e: a ~ b", "c: T ~ T", "c: P a a ~ P b b", "c: P a b ~ P b a", "c: a ~ A a1",
	} {
		isNorm(t, gs, "", "x", "x")
		isProved(t, gs, "x ~ x", "proved")
		isProved(t, gs, "x ~ y", "not")
	}
}

// F1, F2: which error comes first: names, for alls, contradictions.
func TestErrors(t *testing.T) {
	for gs, want := range map[string]string{
		"c: a ~ b, c: a ~ b":                                   "arg",
		"c: a ~ b, d: b ~ e, c: e ~ f":                         "arg",
		"c: a ~ forall b. b, c: a ~ b":                         "arg",
		"c: Int ~ U, c: a ~ b":                                 "arg",
		"d: Int ~ U, e: forall a. a ~ b, c: a ~ b, c: a ~ b":   "arg",
		"c: forall a. a ~ forall a. a":                         "poly",
		"c: a ~ forall b. Int":                                 "poly",
		"c: forall b. Int ~ a":                                 "poly",
		"c: a ~ T (U b (forall b. b))":                         "poly",
		"c: a ~ b -> forall b. b":                              "poly",
		"c: Int ~ U, d: a ~ forall a. a":                       "poly",
		"c: a ~ Int, d: b ~ (forall a. a) -> a, e: Int ~ U":    "poly",
		"c: a ~ T a, cc: a ~ b":                                "contra",
		"c: a ~ b, C: a ~ b, a: b ~ a, b: Int ~ a, Int: U ~ b": "contra",
	} {
		isNorm(t, gs, "a b", "a", want)
		isNorm(t, gs, "", "forall x. x", want)
		isProved(t, gs, "a ~ b", want)
		isProved(t, gs, "a ~ a", want)
		isProved(t, gs, "forall a. a ~ Int", want)
	}
}

// F2: what is proved, and what is not.
func TestProve(t *testing.T) {
	const gs = "c: a ~ T b, d: b ~ Int, e: P x (y -> T z) ~ P y (u -> w), f: l -> ?1 ~ m -> n, g: T (T p) ~ T q, h: q ~ r, i: s ~ s"
	for _, x := range []string{
		"a ~ a", "k ~ k", "Int ~ Int", "?7 ~ ?7", "T k ?7 -> U ~ T k ?7 -> U",
		"a ~ T b", "a ~ T Int", "b ~ Int", "T a ~ T (T b)", "a -> b ~ T Int -> Int", "a -> a ~ T b -> T Int",
		"x ~ y", "y ~ u", "x ~ u", "w ~ T z", "P x w k ~ P u (T z) k", "T w -> x ~ T (T z) -> u",
		"l ~ m", "n ~ ?1", "T n l ~ T ?1 m",
		"q ~ T p", "r ~ T p", "T r ~ T (T p)", "r ~ q", "P r q ~ P q r",
		"U ~ U", "U (U (U a b)) ~ U (U (U (T Int) Int))",
	} {
		isProved(t, gs, x, "proved")
	}
	for _, x := range []string{
		"a ~ b", "a ~ Int", "a ~ T a", "b ~ U", "k ~ j", "k ~ Int", "k ~ T k", "x ~ z", "x ~ w", "w ~ z", "w ~ T x", "l ~ n", "l ~ ?1", "m ~ ?2", "?1 ~ ?2", "?1 ~ Int", "n ~ ?2",
		"T a ~ U a", "T a ~ T a b", "T ~ T a", "T a b ~ a -> b", "a -> k ~ a -> j", "P a k ~ P (T b) j", "P k a ~ P j (T b)", "q ~ p", "p ~ r", "Int ~ U", "Int -> U ~ U -> Int", "s ~ i", "c ~ d", "a ~ c",
	} {
		isProved(t, gs, x, "not")
	}
}

// F2: without givens just what is the same is proved.
func TestProveWithoutGivens(t *testing.T) {
	for _, none := range [][]coerce.Given{nil, {}} {
		for _, s := range []string{"a", "?1", "Int", "forall a. a -> b", "T (forall a. a) ?1"} {
			for _, u := range []string{"a", "?1", "Int", "forall c. c -> b", "T (forall b. b) ?1", "forall b. b -> b"} {
				want := "not"
				if parsed(t, s).Same(parsed(t, u)) {
					want = "proved"
				}
				if got := proved(t, none, parsed(t, s), parsed(t, u)); got != want {
					t.Errorf("%q ~ %q is %q", s, u, got)
				}
			}
		}
	}
}

// F2: what stands behind for alls, with free names that are called as what is bound, and as what is new.
func TestProveForAlls(t *testing.T) {
	const gs = "c: a ~ Int, d: b ~ T e, f: x0 ~ x1 -> x2, g: e ~ h"
	for _, x := range []string{
		"forall a. a ~ forall b. b",
		"forall z. a ~ forall a. Int",
		"forall z. z -> a ~ forall a. a -> Int",
		"forall a. a -> b ~ forall b. b -> T e",
		"forall e. e -> b ~ forall z. z -> T e",
		"forall e. e -> b ~ forall z. z -> T h",
		"forall x0. x0 -> a ~ forall x1. x1 -> Int",
		"forall z. z -> x0 ~ forall x0. x0 -> x1 -> x2",
		"forall x1 x2. T x1 x2 x0 ~ forall y z. T y z (x1 -> x2)",
		"forall y. (forall z. P y z b) -> y ~ forall z. (forall y. P z y (T h)) -> z",
		"forall y. (forall y. P y b) -> y ~ forall z. (forall z. P z (T e)) -> z",
		"forall y y. P y b ~ forall z y. P y (T e)",
		"(forall y. y) -> b ~ (forall z. z) -> T h",
		"forall y. (y -> a) -> forall z. (z -> a) -> y -> a ~ forall y. (y -> Int) -> forall z. (z -> Int) -> y -> Int",
		"T (forall y. P y (forall z. z -> a) b) ~ T (forall z. P z (forall z. z -> Int) (T h))",
		"forall y. P (forall z. z -> y) a (forall w. w -> w) ~ forall z. P (forall y. y -> z) Int (forall z. z -> z)",
	} {
		isProved(t, gs, x, "proved")
	}
	for _, x := range []string{
		"forall a. a ~ forall z. Int",
		"forall a. a ~ Int",
		"forall z. a ~ a",
		"forall z. a ~ Int",
		"forall y z. a ~ forall z. Int",
		"forall y. y ~ a",
		"forall y z. y ~ forall y z. z",
		"forall y. y -> a ~ forall y. a -> y",
		"forall b. b ~ forall z. T e",
		"forall e. b ~ forall e. T e",
		"forall e. e ~ forall e. h",
		"forall y. (forall y. y) -> a ~ forall y. (forall z. y) -> Int",
		"T (forall a. a) ~ T (forall b. b) c",
	} {
		isProved(t, gs, x, "not")
	}
}

// F2: a proof that a given is by itself, and no longer than that; and one of what is the same.
func TestPlainProofs(t *testing.T) {
	gs := givens(t, "c: a ~ T b, d: b ~ Int, e: P x y ~ P y z, f: k ~ U l, g: U m ~ k, h: n ~ l, i: o ~ m")
	for _, x := range [][3]string{
		{"a", "T b", "c"},
		{"T b", "a", "(Sym c)"},
		{"a", "T Int", "(Trans c (Con T d))"},
		{"b", "b", "<b>"},
		{"P a ?1 -> w", "P a ?1 -> w", "<P a ?1 -> w>"},
		{"x", "y", "(Nth 0 e)"},
		{"z", "y", "(Sym (Nth 1 e))"},
		{"P x y", "P y z", "e"},
		{"b -> w", "Int -> w", "(Fun d <w>)"},
		{"forall b. b -> a", "forall z. z -> T b", "(All x0 (Fun <x0> c))"},
		{"T b", "T Int", "(Con T d)"},
		{"U l", "U n", "(Con U (Sym h))"},
		{"U m", "U o", "(Con U (Sym i))"},
	} {
		if c, ok, e := entail.Prove(gs, parsed(t, x[0]), parsed(t, x[1])); !ok || e != api.OK || c.Print() != x[2] {
			t.Errorf("%q ~ %q is proved by %q, not %q, %v", x[0], x[1], c.Print(), x[2], e)
		}
	}
}

// R4: no givens and no order, no arguments and an empty list of them.
func TestNilAndEmpty(t *testing.T) {
	x := types.Type{Kind: api.Con, Name: "T", Args: []types.Type{{Kind: api.Con, Name: "U", Args: []types.Type{}}, {Kind: api.Var, Name: "a", Args: []types.Type{}}}}
	y := con("T", con("U"), v("a"))
	for _, gs := range [][]coerce.Given{nil, {}, {{Name: "c", L: x, R: y}}, {{Name: "c", L: con("U"), R: x.Args[0]}, {Name: "d", L: x.Args[1], R: v("b")}}} {
		for _, order := range [][]string{nil, {}} {
			if got := told(entail.Norm(gs, order, x)); got != "T U a" {
				t.Error(got)
			}
		}
		if got := proved(t, gs, x, y); got != "proved" {
			t.Error(got)
		}
	}
}

// R5, R6: what is handed in stays as it was, and two calls answer alike.
func TestNothingChanges(t *testing.T) {
	const texts = "c: a ~ T b, d: b ~ Int, e: P x y ~ P y z, f: x0 ~ x1, g: m ~ n, h: n ~ k, i: T m ~ T k"
	gs, order := givens(t, texts), []string{"z", "k", "z"}
	x, y := parsed(t, "forall a. T a b (forall z. x -> m -> x0)"), parsed(t, "forall b. T b Int (forall x. z -> k -> x1)")
	firstNorm, _ := entail.Norm(gs, order, x)
	firstProof, ok, _ := entail.Prove(gs, x, y)
	if !ok || firstNorm.Canon() != "forall x1. T x1 Int (forall x2. z -> k -> x0)" {
		t.Fatal(ok, firstNorm.Canon())
	}
	for range 30 {
		norm, _ := entail.Norm(gs, order, x)
		proof, _, _ := entail.Prove(gs, x, y)
		if !reflect.DeepEqual(norm, firstNorm) || !reflect.DeepEqual(proof, firstProof) {
			t.Fatalf("%q, and then %q", firstProof.Print(), proof.Print())
		}
	}
	if !reflect.DeepEqual(gs, givens(t, texts)) || !slices.Equal(order, []string{"z", "k", "z"}) || !reflect.DeepEqual(x, parsed(t, "forall a. T a b (forall z. x -> m -> x0)")) {
		t.Error("something is changed")
	}
}

// R1: of trees that are no types nothing is promised but that each call ends, and does not panic.
func TestOddTrees(t *testing.T) {
	a := v("a")
	odd := []types.Type{
		{}, {Kind: -1, N: 3}, {Kind: -2, N: 1}, {Kind: -1, Name: "a", Args: []types.Type{a}}, {Kind: 99, Args: []types.Type{a}}, {Kind: api.Var}, {Kind: api.Con}, {Kind: api.Fun}, {Kind: api.All}, {Kind: api.All, Name: "a"}, {Kind: api.Meta, N: -1 << 63},
		{Kind: api.Fun, Args: []types.Type{a}}, {Kind: api.Fun, Args: []types.Type{a, a, a}}, {Kind: api.All, Name: "a", Args: []types.Type{a, a}}, {Kind: api.Var, Name: "a", Args: []types.Type{all("a", a)}}, {Kind: api.Meta, N: 1, Name: "a", Args: []types.Type{a}},
	}
	for _, x := range odd {
		odd = append(odd, con("T", a, x), fun(x, a), all("a", x), all("b", fun(a, x)))
	}
	for i, x := range odd {
		for _, y := range odd {
			for _, gs := range [][]coerce.Given{nil, {{L: x, R: y}}, {{Name: "c", L: a, R: x}, {Name: "d", L: con("T", a, a), R: con("T", y, v("b"))}}} {
				entail.Norm(gs, []string{"", "a"}, x)
				entail.Prove(gs, x, y)
				entail.Prove(gs, con("T", x, v("b")), con("T", a, odd[(i*7+3)%len(odd)]))
			}
		}
	}
}
