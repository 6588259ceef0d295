package check_test

import (
	"reflect"
	"strings"
	"testing"

	"savant/api"
	"savant/check"
	"savant/decls"
	"savant/fc"
	"savant/syntax"
	"savant/types"
)

// parsed is what parse reads of a text that must be one of its kind.
func parsed[T any](t testing.TB, parse func(s string) (T, api.Errno), s string) T {
	t.Helper()
	x, e := parse(s)
	if e != api.OK {
		t.Fatalf("%.80q: %v", s, e)
	}
	return x
}

func typ(t testing.TB, s string) types.Type {
	t.Helper()
	return parsed(t, types.Parse, s)
}

func term(t testing.TB, s string) fc.Term {
	t.Helper()
	return parsed(t, fc.ParseTerm, s)
}

// table is the one of a program with which nothing must be wrong.
func table(t testing.TB, s string) *decls.Table {
	t.Helper()
	got, name, e := decls.New(parsed(t, syntax.Parse, s))
	if e != api.OK {
		t.Fatalf("New of %q: %q, %v", s, name, e)
	}
	return got
}

// ill is what told tells where there is no type.
const ill = "ill"

func told(u types.Type, e api.Errno) string {
	switch {
	case e == api.OK:
		return u.Canon()
	case e != api.ErrIll || !reflect.DeepEqual(u, types.Type{}):
		return e.Error() + " and " + u.Print()
	}
	return ill
}

// The data and the definitions that most tests are about.
const (
	data = `data Int {I : Int}; data N {Z : N; S : N -> N}; data None {};
data E a {L : Int -> E Int; U : forall d. d -> E d; B : forall b c. E b -> E c -> E (Q b c)};
data Q x y {M : forall x y. x -> y -> Q x y; D : forall z. z -> Q z z; X : forall a b. a -> (forall c. c -> b) -> Q b Int};
data H {Hide : forall a. a -> (a -> N) -> H}; data Eq a b {Refl : forall a. Eq a a};
data W {Wrap : (forall a. a -> a) -> W}; data J a b {Join : forall a b. Eq (T a) b -> J (T a) (T b)}; data T a {Put : forall a. T a}`
	given = `f : forall a. E a -> a = f; id : forall a. a -> a = id; w : W = w; n : N = Z; i : Int = I; k : forall a b. a -> b -> a = k; t : T N = t`
)

// world is what terms are checked by.
type world struct {
	table *decls.Table
	defs  []fc.Def
}

func newWorld(t testing.TB, data, defs string) world {
	t.Helper()
	return world{table: table(t, data), defs: parsed(t, fc.Parse, defs)}
}

func ordinary(t testing.TB) world {
	t.Helper()
	return newWorld(t, data, given)
}

// isOf asks which type a term has, by canonical names.
func (w world) isOf(t *testing.T, s, want string) {
	t.Helper()
	x := term(t, s)
	if got := told(check.Term(w.table, w.defs, x)); got != want {
		t.Errorf("%q: %q, not %q", s, got, want)
	}
	if !reflect.DeepEqual(x, term(t, s)) {
		t.Errorf("%q is changed", s)
	}
}

// areOf asks it of several, each ahead of its type.
func (w world) areOf(t *testing.T, texts ...string) {
	t.Helper()
	for i := 0; i < len(texts); i += 2 {
		w.isOf(t, texts[i], texts[i+1])
	}
}

// M1: the chapter's examples.
func TestExamples(t *testing.T) {
	w := newWorld(t, "data Int {I : Int}; data E a {L : Int -> E Int; U : forall d. d -> E d}", "f : forall a. E a -> a = f")
	w.areOf(t,
		`(!a. (\x : E a. (case x : a of {L ~c y -> (y |> (Sym c)); U z -> z})))`, "forall x0. E x0 -> x0",
		"((f @ Int) (((L @ Int) ~ <Int>) I))", "Int",
		"(L @ Int)", ill,
		"((U @ Int) L)", ill,
		`(\x : a. x)`, ill,
		"(I |> c)", ill,
		"(!a. (!a. I))", "forall x0 x1. Int",
	)
}

// M1: a variable has the type that it has where it is bound innermost; definitions are there from the beginning, and nothing else is.
func TestVariables(t *testing.T) {
	w := ordinary(t)
	w.areOf(t,
		"n", "N",
		"f", "forall x0. E x0 -> x0",
		"w", "W",
		"x", ill,
		"a", ill,
		`(\n : Int. n)`, "Int -> Int",
		`(\x : N. (\x : Int. x))`, "N -> Int -> Int",
		`(\x : N. (\y : Int. x))`, "N -> Int -> N",
		`((\x : N. x) x)`, ill,
		`(\x : N. ((\x : Int. x) x))`, ill,
		`(\x : N. ((\x : N. x) x))`, "N -> N",
		`(\n : Int. (let n : N = Z in n))`, "Int -> N",
		`(let n : Int = I in n)`, "Int",
		"(!x. x)", ill,
		"(!n. n)", "forall x0. N",
		`(case ((Refl @ N) @ N) : N of {Refl ~n -> n})`, ill,
		`(case (((Refl @ N) @ N) ~ <N>) : N of {Refl ~n -> n})`, "N",
		`(case (((Refl @ N) @ N) ~ <N>) : N of {Refl ~c -> c})`, ill,
		`(case (S n) : N of {S n -> n; Z -> n})`, "N",
		`(case ((U @ Int) i) : Int of {U n -> n})`, "Int",
		`(case ((U @ Int) i) : Int of {U n -> n; L ~c y -> n})`, ill,
	)
}

// M1: what is bound is bound within alone: behind it a name is for what it was for ahead of it, or for nothing.
func TestScopesEnd(t *testing.T) {
	ordinary(t).areOf(t,
		`(((k @ N -> N) @ N) (\x : N. x))`, "N -> N -> N",
		`((((k @ N -> N) @ N) (\x : N. x)) x)`, ill,
		`(\x : Int. ((((k @ N -> N) @ Int) (\x : N. x)) x))`, "Int -> N -> N",
		`(\x : Int. ((((k @ N -> N) @ N) (\x : N. x)) x))`, ill,
		`((((k @ N) @ Int) (let x : N = Z in x)) x)`, ill,
		`(\x : Int. ((((k @ N) @ Int) (let x : N = Z in x)) x))`, "Int -> N",
		`((((k @ forall a. a -> a) @ N) (!a. (\x : a. x))) Z)`, "forall x0. x0 -> x0",
		`((((k @ forall a. a -> a) @ N) (!a. (\x : a. x))) (case Z : a of {}))`, ill,
		`(!a. (\x : a. ((((k @ forall a. a -> a) @ a) (!a. (\x : a. x))) x)))`, "forall x0. x0 -> forall x1. x1 -> x1",
		`(case Z : N of {S x -> x; Z -> x})`, ill,
		`(\x : N. (case Z : N of {S x -> x; Z -> x}))`, "N -> N",
		`(\x : Int. (case Z : Int of {S y -> x; Z -> x}))`, "Int -> Int",
		`(\x : Int. (case Z : Int of {S x -> x; Z -> x}))`, ill,
		`(\x : Int. (case (case Z : N of {S x -> x; Z -> Z}) : Int of {Z -> x}))`, "Int -> Int",
		`(case (((Refl @ N) @ N) ~ <N>) : N of {Refl ~c -> (Z |> c)})`, "N",
		`((case (((Refl @ N) @ N) ~ <N>) : N of {Refl ~c -> Z}) |> c)`, ill,
		`(\x : Eq N Int. (case x : Int of {Refl ~c -> ((case (((Refl @ N) @ N) ~ <N>) : N of {Refl ~c -> (Z |> c)}) |> (Sym c))}))`, "Eq N Int -> Int",
		`(case (((Hide @ N) Z) S) : H of {Hide @a x y -> (((Hide @ a) x) y)})`, "H",
		`((((k @ H) @ N) (case (((Hide @ N) Z) S) : H of {Hide @a x y -> (((Hide @ a) x) y)})) (case Z : a of {}))`, ill,
		`(!a. (\z : a. (case (((Hide @ N) Z) S) : a of {Hide @b x y -> z})))`, "forall x0. x0 -> x0",
		`(!a. (\z : a. (case (case (((Hide @ N) Z) S) : N of {Hide @a x y -> (y x)}) : a of {Z -> z; S y -> (case y : a of {})})))`, "forall x0. x0 -> x0",
	)
}

// M1: a constructor is applied to as many types and proofs as it has Univ and Exis, and Givens: from within, first to types for Univ, then to those for Exis, then to proofs.
func TestConstructors(t *testing.T) {
	ordinary(t).areOf(t,
		"I", "Int",
		"S", "N -> N",
		"(S Z)", "N",
		"(U @ N)", "N -> E N",
		"(U @ Any)", "Any -> E Any",
		"(U @ forall b. b -> N)", "(forall x0. x0 -> N) -> E (forall x1. x1 -> N)",
		"(!a. (U @ T a))", "forall x0. T x0 -> E (T x0)",
		"(Put @ N)", "T N",
		"Wrap", "(forall x0. x0 -> x0) -> W",
		"((L @ Int) ~ <Int>)", "Int -> E Int",
		"((M @ N) @ Int)", "N -> Int -> Q N Int",
		"(((D @ N) @ N) ~ <N>)", "N -> Q N N",
		"((((B @ Q N Int) @ N) @ Int) ~ <Q N Int>)", "E N -> E Int -> E (Q N Int)",
		"((((X @ N) @ Int) @ None) ~ <Int>)", "None -> (forall x0. x0 -> N) -> Q N Int",
		"(!c. ((((X @ c) @ Int) @ T c) ~ <Int>))", "forall x0. T x0 -> (forall x1. x1 -> x0) -> Q x0 Int",
		"(Hide @ Int)", "Int -> (Int -> N) -> H",
		"((((((Join @ T N) @ T Int) @ N) @ Int) ~ <T N>) ~ <T Int>)", "Eq (T N) Int -> J (T N) (T Int)",
		// Too few, too many, in another order, or not to what there must be.
		"U", ill, "((U @ N) @ N)", ill, "((U @ N) ~ <N>)", ill, "(I @ N)", ill, "(I ~ <N>)", ill,
		"L", ill, "(L @ Int)", ill, "(L ~ <Int>)", ill, "((L ~ <Int>) @ Int)", ill, "(((L @ Int) ~ <Int>) @ Int)", ill, "(((L @ Int) @ Int) ~ <Int>)", ill, "(((L @ Int) ~ <Int>) ~ <Int>)", ill,
		"(M @ N)", ill, "(((M @ N) @ Int) @ N)", ill,
		"((((B @ Q N Int) @ Int) @ N) ~ <Q N Int>)", ill, "((((B @ N) @ Int) @ Q N Int) ~ <Q N Int>)", ill, "(((B @ Q N Int) @ N) ~ <Q N Int>)", ill, "((((B @ Q N Int) @ N) ~ <Q N Int>) @ Int)", ill,
		"((((((Join @ T N) @ T Int) @ N) @ Int) ~ <T Int>) ~ <T N>)", ill, "(((((Join @ T N) @ T Int) @ N) @ Int) ~ <T N>)", ill,
		"((((((Join @ T N) @ T Int) @ Int) @ N) ~ <T N>) ~ <T Int>)", ill,
		"(n ~ <N>)", ill, "(f ~ <N>)", ill, "((f @ N) ~ <N>)", ill, `((\x : N. x) ~ <N>)`, ill, "((((L @ Int) ~ <Int>) I) ~ <Int>)", ill,
		"K", ill, "Int", ill, "Any", ill, "(Foo @ N)", ill,
		// Types and proofs that are not well formed, or say something else.
		"(U @ a)", ill, "(U @ T)", ill, "(U @ N N)", ill, "(U @ Foo)", ill, "(U @ ?1)", ill, "(U @ forall b. a)", ill, "(U @ N -> Foo)", ill,
		"((L @ N) ~ <Int>)", ill, "((L @ Int) ~ <N>)", ill, "((L @ N) ~ <N>)", ill, "((L @ Int) ~ c)", ill, "((L @ Int) ~ (Trans <Int> <N>))", ill,
		"(((D @ N) @ Int) ~ <N>)", ill, "(((D @ N) @ Int) ~ <Int>)", ill,
		"((L @ Int) ~ (Nth 0 <E Int>))", "Int -> E Int",
		"((L @ Int) ~ (Nth 0 <T Foo>))", ill,
	)
}

// M1: what a proof of a constructor says is held against its Given but for bound names, and in the order in which it says it.
func TestProofsOfConstructors(t *testing.T) {
	const poly = "(((Refl @ forall a. a -> N) @ forall b. b -> N) ~ "
	ordinary(t).areOf(t,
		poly+"<forall c. c -> N>)", "Eq (forall x0. x0 -> N) (forall x1. x1 -> N)",
		poly+"(All d (Fun <d> <N>)))", "Eq (forall x0. x0 -> N) (forall x1. x1 -> N)",
		poly+"(Trans <forall d. d -> N> <forall e. e -> N>))", "Eq (forall x0. x0 -> N) (forall x1. x1 -> N)",
		poly+"<forall c. N -> c>)", ill,
		`(\x : Eq N Int. (case x : Eq N Int of {Refl ~c -> (((Refl @ N) @ Int) ~ c)}))`, "Eq N Int -> Eq N Int",
		`(\x : Eq N Int. (case x : Eq N Int of {Refl ~c -> (((Refl @ N) @ Int) ~ (Sym c))}))`, ill,
		`(\x : Eq N Int. (case x : Eq Int N of {Refl ~c -> (((Refl @ Int) @ N) ~ (Sym c))}))`, "Eq N Int -> Eq Int N",
		`(\x : Eq N Int. (case x : Eq Int N of {Refl ~c -> (((Refl @ Int) @ N) ~ c)}))`, ill,
		`(\x : Eq N Int. (case x : E N of {Refl ~c -> (((L @ N) ~ (Sym c)) I)}))`, "Eq N Int -> E N",
		`(\x : Eq N Int. (case x : E N of {Refl ~c -> (((L @ N) ~ c) I)}))`, ill,
		`(\x : Eq Int N. (case x : E N of {Refl ~c -> (((L @ N) ~ (Sym c)) I)}))`, ill,
		`(\x : Eq Int N. (case x : E N of {Refl ~c -> (((L @ N) ~ c) I)}))`, "Eq Int N -> E N",
	)
}

// M1: functions, and what they are applied to.
func TestFunctions(t *testing.T) {
	ordinary(t).areOf(t,
		`(\x : Any. x)`, "Any -> Any",
		`(\x : forall a. a -> T a. x)`, "(forall x0. x0 -> T x0) -> forall x1. x1 -> T x1",
		`(\x : None. Z)`, "None -> N",
		`(!a. (\x : a. x))`, "forall x0. x0 -> x0",
		`(\x : a. Z)`, ill, `(\x : Foo. Z)`, ill, `(\x : T. Z)`, ill, `(\x : T N N. Z)`, ill, `(\x : Any N. Z)`, ill, `(\x : ?0. Z)`, ill, `(\x : forall a. b. Z)`, ill,
		`(\x : N. y)`, ill,
		`((\x : N. x) n)`, "N",
		`((\x : N. x) i)`, ill,
		`((\x : N. x) id)`, ill,
		`((\x : forall a. a -> a. x) id)`, "forall x0. x0 -> x0",
		`((\x : forall b. b -> b. x) (!c. (\y : c. y)))`, "forall x0. x0 -> x0",
		`((\x : forall b. b -> N. x) id)`, ill,
		`(Wrap id)`, "W",
		`(Wrap (id @ N))`, ill,
		`(n n)`, ill, `(id n)`, ill, `((id @ N) n)`, "N", `(w w)`, ill, `(S I)`, ill, `(S S)`, ill, `(Z Z)`, ill,
		`(((k @ N) @ Int) n)`, "Int -> N",
		`((((k @ N) @ Int) n) i)`, "N",
		`((((k @ N) @ Int) i) n)`, ill,
		`(((((k @ N) @ Int) n) i) n)`, ill,
	)
}

// M1: a type variable is unlike all others, though it is written alike; a type means what it meant where it was bound.
func TestTypeVariables(t *testing.T) {
	ordinary(t).areOf(t,
		"(!a. n)", "forall x0. N",
		"(!a. (!b. n))", "forall x0 x1. N",
		`(!a. (!b. (\x : b. (\y : a. x))))`, "forall x0 x1. x1 -> x0 -> x1",
		`(!a. (\x : a. (!a. (\y : a. x))))`, "forall x0. x0 -> forall x1. x1 -> x0",
		`(!a. (\x : a. (!a. (\y : a. y))))`, "forall x0. x0 -> forall x1. x1 -> x1",
		`(!a. (\x : a. (!a. ((id @ a) x))))`, ill,
		`(!a. (\x : a. (!b. ((id @ a) x))))`, "forall x0. x0 -> forall x1. x0",
		`(!a. (\x : a. (!b. ((id @ b) x))))`, ill,
		`(!a. (!a. (\x : a. ((id @ a) x))))`, "forall x0 x1. x1 -> x1",
		`(!a. (\x : forall a. a -> a. ((x @ a) (case Z : a of {}))))`, "forall x0. (forall x1. x1 -> x1) -> x0",
		`(!a. (\x : T a. (!a. (\y : T a. ((((k @ T a) @ N) y) n)))))`, "forall x0. T x0 -> forall x1. T x1 -> T x1",
		`(!a. (\x : T a. (!a. (\y : T a. ((((k @ T a) @ N) x) n)))))`, ill,
		`((!a. (\x : a. x)) @ N)`, "N -> N",
		`(((!a. (!a. (\x : a. x))) @ N) @ Int)`, "Int -> Int",
		`(((!a. (!b. (\x : a. x))) @ N) @ Int)`, "N -> N",
		`(!b. ((!a. (!b. (\x : a. (\y : b. x)))) @ b))`, "forall x0 x1. x0 -> x1 -> x0",
		`(!b. (((!a. (!b. (\x : a. (\y : b. x)))) @ b) @ T b))`, "forall x0. x0 -> T x0 -> x0",
	)
}

// M1: what is applied to a type must be for all types, and the type well formed.
func TestTypeApplications(t *testing.T) {
	ordinary(t).areOf(t,
		"(id @ N)", "N -> N",
		"(id @ forall a. a)", "(forall x0. x0) -> forall x1. x1",
		"(id @ forall a. a -> a)", "(forall x0. x0 -> x0) -> forall x1. x1 -> x1",
		"((id @ forall a. a -> a) id)", "forall x0. x0 -> x0",
		"(((id @ forall a. a -> a) id) @ N)", "N -> N",
		"((((id @ forall a. a -> a) id) @ forall a. a -> a) id)", "forall x0. x0 -> x0",
		"(k @ N)", "forall x0. N -> x0 -> N",
		"((k @ N) @ Int)", "N -> Int -> N",
		"(((k @ N) @ Int) @ N)", ill,
		"((id @ N) @ N)", ill,
		"(n @ N)", ill, `((\x : N. x) @ N)`, ill, "((id @ N -> N) @ N)", ill,
		"(id @ a)", ill, "(id @ T)", ill, "(id @ ?3)", ill, "(id @ Foo)", ill, "((k @ N) @ a)", ill, "((k @ a) @ N)", ill,
		"(!a. (id @ a))", "forall x0. x0 -> x0",
		"(!a. ((k @ T a) @ a))", "forall x0. T x0 -> x0 -> T x0",
		"((case Z : forall a. a of {}) @ N)", "N",
		"(((case Z : forall a. a of {}) @ forall a b. b) @ N)", "forall x0. x0",
		"((((case Z : forall a. a of {}) @ forall a b. b -> a) @ N) @ T N)", "T N -> N",
		"((((case Z : forall a. a of {}) @ forall a. a) @ forall a. a) @ N)", "N",
		"((let x : forall a. a -> a = id in x) @ N)", "N -> N",
		"((id |> <forall b. b -> b>) @ N)", "N -> N",
	)
}

// M1: a let's type is well formed, and that of its first Kid, in which its name is not bound.
func TestLet(t *testing.T) {
	ordinary(t).areOf(t,
		"(let x : N = n in x)", "N",
		"(let x : N = n in (let y : Int = i in x))", "N",
		"(let x : N = i in x)", ill, "(let x : N = i in n)", ill, "(let x : N = x in n)", ill, "(let x : N = n in y)", ill,
		"(let x : forall b. b -> b = id in ((x @ Int) i))", "Int",
		"(let x : forall b. b -> N = id in n)", ill,
		"(let x : a = (case Z : a of {}) in n)", ill, "(let x : Foo = (case Z : Foo of {}) in n)", ill, "(let x : ?1 = (case Z : N of {}) in n)", ill,
		"(!a. (let x : a = (case Z : a of {}) in x))", "forall x0. x0",
		"(!a. (let x : a = (case Z : a of {}) in (!a. x)))", "forall x0 x1. x0",
		"(!a. (let x : forall a. a -> a = (!a. ((k @ a) @ a)) in n))", ill,
	)
}

// M1: a case is of its type; what it is a case of must be of the data whose constructors its alternatives have, each of them but once.
func TestCases(t *testing.T) {
	ordinary(t).areOf(t,
		"(case n : N of {Z -> n; S m -> m})", "N",
		"(case n : N of {S m -> m; Z -> n})", "N",
		"(case n : Int of {S m -> i})", "Int",
		"(case n : Int of {})", "Int", "(case id : Int of {})", "Int", "(case i : forall b. b of {})", "forall x0. x0", "(case (case n : None of {}) : N of {})", "N",
		"(!a. (case n : a of {}))", "forall x0. x0",
		"(case (case n : None of {}) : N of {Z -> n})", ill, "(case (case n : Any of {}) : N of {Z -> n})", ill,
		"(case x : Int of {})", ill, "(case (n n) : Int of {})", ill, "(case n : a of {})", ill, "(case n : Foo of {})", ill, "(case n : ?1 of {})", ill, "(case n : T of {})", ill,
		"(case n : N of {Z -> i})", ill, "(case n : N of {Z -> n; S m -> i})", ill, "(case n : N of {Z -> i; S m -> n})", ill, "(case n : N of {S m -> S})", ill,
		"(case n : N of {Z -> n; Z -> n})", ill, "(case n : N of {Z -> n; S m -> m; Z -> n})", ill, "(case n : N of {S m -> n; S l -> n})", ill,
		"(case n : N of {I -> n})", ill, "(case n : N of {Z -> n; I -> n})", ill, "(case n : N of {Foo -> n})", ill, "(case n : N of {N -> n})", ill,
		"(case i : N of {Z -> n})", ill, "(case id : N of {Z -> n})", ill, "(case S : N of {Z -> n})", ill, "(case (id @ N) : N of {Z -> n})", ill, "(!a. (case (case n : a of {}) : N of {Z -> n}))", ill,
		"(case n : forall b. b -> b of {Z -> (!a. (\\x : a. x)); S m -> id})", "forall x0. x0 -> x0",
		"(case n : forall b. b -> b of {Z -> (!a. (\\x : a. x)); S m -> (!a. (\\x : N. x))})", ill,
		"(case t : T N of {Put -> (Put @ N)})", "T N",
		"(case t : T Int of {Put -> (Put @ N)})", ill,
	)
}

// M1: an alternative binds as many names of each sort as its constructor has, no two alike.
func TestNamesOfAlternatives(t *testing.T) {
	ordinary(t).areOf(t,
		"(case n : N of {S -> n})", ill, "(case n : N of {S m l -> n})", ill, "(case n : N of {Z m -> n})", ill, "(case n : N of {Z @a -> n})", ill, "(case n : N of {S @a m -> n})", ill, "(case n : N of {Z ~c -> n})", ill, "(case n : N of {S ~c m -> n})", ill,
		`(\x : Q N Int. (case x : N of {M y z -> y; D ~c y -> y; X @a ~c y z -> ((z @ N) n)}))`, "Q N Int -> N",
		`(\x : Q N Int. (case x : N of {M y y -> n}))`, ill,
		`(\x : Q N Int. (case x : N of {M y -> y}))`, ill,
		`(\x : Q N Int. (case x : N of {X ~c y z -> n}))`, ill,
		`(\x : Q N Int. (case x : N of {X @a y z -> n}))`, ill,
		`(\x : Q N Int. (case x : N of {X @a @b ~c y z -> n}))`, ill,
		`(\x : Q N Int. (case x : N of {X @a ~c ~d y z -> n}))`, ill,
		`(\x : Q N Int. (case x : N of {X @a ~c y y -> n}))`, ill,
		`(\x : Q N Int. (case x : N of {X @a ~a a z -> n}))`, "Q N Int -> N",
		`(\x : E N. (case x : N of {B @a @b ~c y z -> n}))`, "E N -> N",
		`(\x : E N. (case x : N of {B @a @a ~c y z -> n}))`, ill,
		`(\x : J N N. (case x : N of {Join @a @b ~c ~d y -> n}))`, "J N N -> N",
		`(\x : J N N. (case x : N of {Join @a @b ~c ~c y -> n}))`, ill,
	)
}

// M1: an alternative's names are of the constructor's types, with the data's arguments and the names in the places.
func TestTypesOfAlternatives(t *testing.T) {
	ordinary(t).areOf(t,
		`(!a. (!b. (\x : Q a b. (case x : a of {M y z -> y; D ~c y -> y}))))`, "forall x0 x1. Q x0 x1 -> x0",
		`(!a. (!b. (\x : Q a b. (case x : b of {M y z -> z; D ~c y -> (y |> (Sym c))}))))`, "forall x0 x1. Q x0 x1 -> x1",
		`(!a. (!b. (\x : Q a b. (case x : b of {M y z -> y}))))`, ill,
		`(!a. (!b. (\x : Q a b. (case x : b of {D ~c y -> (y |> c)}))))`, ill,
		`(!a. (!b. (\x : Q a b. (case x : b of {D ~c y -> y}))))`, ill,
		`(!a. (\x : E a. (case x : a of {B @b @c ~g y z -> (case z : a of {})})))`, "forall x0. E x0 -> x0",
		`(!a. (\x : E a. (case x : E a of {B @b @c ~g y z -> (((((B @ a) @ b) @ c) ~ g) y)})))`, ill,
		`(!a. (\x : E a. (case x : E a of {B @b @c ~g y z -> ((((((B @ a) @ b) @ c) ~ g) y) z)})))`, "forall x0. E x0 -> E x0",
		`(!a. (\x : E a. (case x : E a of {B @b @c ~g y z -> ((((((B @ a) @ b) @ c) ~ g) z) y)})))`, ill,
		`(!a. (\x : E a. (case x : E a of {B @c @b ~g y z -> ((((((B @ a) @ c) @ b) ~ g) y) z)})))`, "forall x0. E x0 -> E x0",
		`(!a. (\x : E a. (case x : E a of {B @c @b ~g y z -> ((((((B @ a) @ b) @ c) ~ g) y) z)})))`, ill,
		`(\x : E (Q N Int). (case x : E N of {B @b @c ~g y z -> (y |> (Con E (Nth 0 (Sym g))))}))`, "E (Q N Int) -> E N",
		`(\x : E (Q N Int). (case x : E N of {B @b @c ~g y z -> (y |> (Con E (Nth 1 (Sym g))))}))`, ill,
		`(\x : E (Q N Int). (case x : E Int of {B @b @c ~g y z -> (z |> (Con E (Nth 1 (Sym g))))}))`, "E (Q N Int) -> E Int",
		`(\x : W. (case x : N of {Wrap y -> ((y @ N) n)}))`, "W -> N",
		`(\x : W. (case x : Int of {Wrap y -> ((y @ N) n)}))`, ill,
		`(\x : J N Int. (case x : Eq N Int of {Join @a @b ~c ~d y -> (y |> (Con Eq (Sym c) (Nth 0 (Sym (Con T d)))))}))`, ill,
		`(\x : J N (T Int). (case x : Eq N Int of {Join @a @b ~c ~d y -> (y |> (Con Eq (Sym c) (Nth 0 (Sym d))))}))`, "J N (T Int) -> Eq N Int",
		`(\x : J N (T Int). (case x : Eq N Int of {Join @a @b ~d ~c y -> (y |> (Con Eq (Sym c) (Nth 0 (Sym d))))}))`, ill,
	)
}

// M1: what is hidden is unlike all others, and does not get out.
func TestHidden(t *testing.T) {
	ordinary(t).areOf(t,
		`(\h : H. (case h : N of {Hide @a x y -> (y x)}))`, "H -> N",
		`(\h : H. (case h : N of {Hide @a x y -> x}))`, ill,
		`(\h : H. (case h : a of {Hide @a x y -> x}))`, ill,
		`(!a. (\h : H. (case h : a of {Hide @a x y -> x})))`, ill,
		`(!a. (\z : a. (\h : H. (case h : a of {Hide @a x y -> z}))))`, "forall x0. x0 -> H -> x0",
		`(!a. (\z : a. (\h : H. (case h : N of {Hide @a x y -> (y z)}))))`, ill,
		`(\h : H. (case h : N of {Hide @a x y -> (case h : N of {Hide @b v w -> (w v)})}))`, "H -> N",
		`(\h : H. (case h : N of {Hide @a x y -> (case h : N of {Hide @b v w -> (w x)})}))`, ill,
		`(\h : H. (case h : N of {Hide @a x y -> (case h : N of {Hide @a v w -> (y x)})}))`, "H -> N",
		`(\h : H. (case h : N of {Hide @a x y -> (case h : N of {Hide @a v w -> (w x)})}))`, ill,
		`(\h : H. (case h : H of {Hide @a x y -> (((Hide @ a) x) y)}))`, "H -> H",
		`(\h : H. (case h : H of {Hide @a x y -> (((Hide @ T a) (Put @ a)) (\z : T a. (y x)))}))`, "H -> H",
		`(\h : H. (case h : E N of {Hide @a x y -> ((((k @ E N) @ E a) ((U @ N) n)) ((U @ a) x))}))`, "H -> E N",
		`(\h : H. (case h : E a of {Hide @a x y -> ((U @ a) x)}))`, ill,
	)
}

// M1: a cast's coercion says by the givens in scope that the Kid's type is another one.
func TestCasts(t *testing.T) {
	w := ordinary(t)
	w.areOf(t,
		"(n |> <N>)", "N",
		"(n |> <Int>)", ill, "(n |> <a>)", ill, "(n |> <Foo>)", ill, "(n |> <?1>)", ill, "(n |> c)", ill, "(x |> <N>)", ill, "((n n) |> <N>)", ill,
		"((n |> <N>) |> (Sym (Trans <N> <N>)))", "N",
		"(id |> <forall b. b -> b>)", "forall x0. x0 -> x0",
		"(id |> (All b (Fun <b> <b>)))", "forall x0. x0 -> x0",
		"(id |> (All b <b -> b>))", "forall x0. x0 -> x0",
		"(id |> (All b (Fun <b> <N>)))", ill, "(id |> (All b (Fun <b> <a>)))", ill, "(id |> (Fun (All b <b>) <b>))", ill,
		"((id @ N) |> (Inst <forall c. c -> c> <N>))", "N -> N",
		"((id @ N) |> (Inst (All c (Fun <c> <c>)) <N>))", "N -> N",
		"((id @ N) |> (Inst <forall c. c -> c> <Int>))", ill, "((id @ N) |> (Inst <forall c. c -> c> <a>))", ill, "((id @ N) |> (Inst <forall c. c -> N> <a>))", ill, "((id @ N) |> (Inst <N> <N>))", ill,
		"(!a. (!a. ((id @ a) |> (All a <a>))))", ill,
		"(!a. ((id @ a) |> (Inst (All a (Fun <a> <a>)) <a>)))", "forall x0. x0 -> x0",
		"(t |> (Con T <N>))", "T N", "(t |> (Con T <Int>))", ill, "(t |> (Con T))", ill,
	)
	// What is to be carried from a to Int, and back.
	within := func(x, typ string) string {
		return `(!a. (\x : a. (\y : E a. (case y : ` + typ + ` of {L ~c z -> ` + x + `}))))`
	}
	for _, c := range [][2]string{
		{"(x |> c)", "Int"}, {"(z |> (Sym c))", "a"}, {"((x |> c) |> (Sym c))", "a"}, {"(x |> (Trans c (Sym c)))", "a"}, {"(y |> (Con E c))", "E Int"},
		{`((\v : a. v) |> (Fun c <a>))`, "Int -> a"}, {`((\v : a. v) |> (Fun <a> c))`, "a -> Int"},
		{"((k @ a) |> (All b (Fun c (Fun <b> <a>))))", "forall x1. Int -> x1 -> a"},
		{"((!b. (\\v : a. n)) |> (All a (Fun c <N>)))", "forall x1. Int -> N"},
		{"(x |> (Nth 0 (Con E c)))", "Int"}, {"(x |> (Nth 1 (Fun <N> c)))", "Int"}, {"(x |> (Inst (All b c) <b>))", ill}, {"(x |> (Inst (All b c) <a>))", "Int"},
	} {
		want := ill
		if c[1] != ill {
			want = "forall x0. x0 -> E x0 -> " + typ(t, c[1]).Put("a", typ(t, "x0")).Print()
		}
		w.isOf(t, within(c[0], strings.ReplaceAll(strings.ReplaceAll(c[1], "x1", "b"), ill, "Int")), want)
	}
	for _, x := range []string{"(x |> (Sym c))", "(z |> c)", "(x |> d)", "(x |> (Trans c c))", "(x |> <Int>)", "(x |> <a>)", "x", "(y |> c)", "(y |> <E Int>)", "(x |> (Nth 1 (Con E c)))", "(x |> (Nth 0 (Con Foo c)))", "(x |> (Nth 0 (Con Any c)))", "(x |> (Nth 0 (Con E c c)))", "(x |> (Nth 0 (Con Q c)))", "(x |> (Nth 0 (Fun c <b>)))", "(x |> (Nth 0 (Fun c <?1>)))", "(x |> (Nth 0 (Fun c <E>)))", "(x |> (Nth 0 (Fun c (All b <a -> d>))))"} {
		w.isOf(t, within(x, "Int"), ill)
	}
}
