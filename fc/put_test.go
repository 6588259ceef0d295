package fc_test

import (
	"reflect"
	"testing"

	"savant/api"
	"savant/fc"
)

// isPut asks what a term is with something in the place of a name, by put.
func isPut(t *testing.T, s, put, name, u, want string) {
	t.Helper()
	x := term(t, s)
	var got fc.Term
	switch put {
	case "type":
		got = x.PutType(name, typ(t, u))
	case "proof":
		got = x.PutCo(name, co(t, u))
	case "var":
		got = x.PutVar(name, term(t, u))
	}
	if !reflect.DeepEqual(got, term(t, want)) {
		t.Errorf("%q with %q in the place of the %s %s is %q, not %q", s, u, put, name, got.Print(), want)
	}
	if x.Print() != s {
		t.Errorf("%q is changed into %q", s, x.Print())
	}
}

// L2: types come in the place of a type variable wherever it is free, in types and coercions.
func TestPutType(t *testing.T) {
	for _, c := range [][2]string{
		{`(\x : a. x)`, `(\x : T b. x)`},
		{`(\x : a -> forall c. a. (\y : T c a. x))`, `(\x : T b -> forall c. T b. (\y : T c (T b). x))`},
		{"(x @ a)", "(x @ T b)"},
		{"((x @ a) @ b)", "((x @ T b) @ b)"},
		{"(let x : a = (y @ a) in (z @ a))", "(let x : T b = (y @ T b) in (z @ T b))"},
		{"(case (x @ a) : a of {K -> (y @ a); L -> (z @ a)})", "(case (x @ T b) : T b of {K -> (y @ T b); L -> (z @ T b)})"},
		{"(x ~ <a>)", "(x ~ <T b>)"},
		{"(x |> <a -> c>)", "(x |> <T b -> c>)"},
		{"((x @ a) ~ <a>)", "((x @ T b) ~ <T b>)"},
		{"((x @ a) |> (Inst (All c (Fun <a> (Sym <c>))) <U a>))", "((x @ T b) |> (Inst (All c (Fun <T b> (Sym <c>))) <U (T b)>))"},
		{"(x ~ (Trans (Nth 0 <a>) (Con V <a> c <a>)))", "(x ~ (Trans (Nth 0 <T b>) (Con V <T b> c <T b>)))"},
		{"(!c. (x @ a))", "(!c. (x @ T b))"},
		{"((f @ a) (x @ a))", "((f @ T b) (x @ T b))"},
		// Where it is bound it is not free.
		{"(x @ forall a. a)", "(x @ forall a. a)"},
		{"(x @ a -> forall a. a)", "(x @ T b -> forall a. a)"},
		{"(x @ (forall a. a) -> a)", "(x @ (forall a. a) -> T b)"},
		{"(!a. (x @ a))", "(!a. (x @ a))"},
		{"((!a. (x @ a)) @ a)", "((!a. (x @ a)) @ T b)"},
		{`(!c. (\x : a. (!a. (\y : a. x))))`, `(!c. (\x : T b. (!a. (\y : a. x))))`},
		{"(case (x @ a) : a of {K @a -> (y @ a); L -> (z @ a)})", "(case (x @ T b) : T b of {K @a -> (y @ a); L -> (z @ T b)})"},
		{"(case x : c of {K @d @a ~e y -> (y |> <a>); K @d -> (y |> <a>)})", "(case x : c of {K @d @a ~e y -> (y |> <a>); K @d -> (y |> <T b>)})"},
		{"(x ~ (All a <a>))", "(x ~ (All a <a>))"},
		{"(x |> (Fun <a> (All a (Inst (Sym <a>) <a>))))", "(x |> (Fun <T b> (All a (Inst (Sym <a>) <a>))))"},
		{"(x |> (Inst (All a <a>) <a>))", "(x |> (Inst (All a <a>) <T b>))"},
		{"(x |> (All c (Fun (All a <a>) <a>)))", "(x |> (All c (Fun (All a <a>) <T b>)))"},
		{"(x ~ <forall a. a>)", "(x ~ <forall a. a>)"},
		// Variables, proofs, constructors and unknowns are no type variables, though they are written alike; nor do their names bind any.
		{"a", "a"},
		{"(a K)", "(a K)"},
		{`(\a : a. (a @ a))`, `(\a : T b. (a @ T b))`},
		{"(let a : a = (a @ a) in (a @ a))", "(let a : T b = (a @ T b) in (a @ T b))"},
		{"(case a : a of {K ~a -> (a @ a); L a -> (a @ a)})", "(case a : T b of {K ~a -> (a @ T b); L a -> (a @ T b)})"},
		{"(x ~ a)", "(x ~ a)"},
		{"(a |> (Trans a <a>))", "(a |> (Trans a <T b>))"},
		{"(x @ A ?1)", "(x @ A ?1)"},
	} {
		isPut(t, c[0], "type", "a", "T b", c[1])
		isPut(t, c[0], "type", "elsewhere", "T b", c[0])
		isPut(t, c[0], "type", "a", "a", c[0])
	}
}

// L2: a type is put as chapter 2 puts it: a for all of a type binds nothing in it.
func TestPutTypeIsChapter2s(t *testing.T) {
	x := term(t, `(\x : forall b. a -> b. (x |> (Sym <forall b. T a b>)))`).PutType("a", typ(t, "b"))
	if want := term(t, `(\x : forall c. b -> c. (x |> (Sym <forall c. T b c>)))`); !x.T.Same(want.T) || !x.Kids[0].Co.Kids[0].T.Same(want.Kids[0].Co.Kids[0].T) {
		t.Error(x.Print())
	}
}

// L2: proofs come in the place of a name of a proof wherever it is free.
func TestPutCo(t *testing.T) {
	for _, c := range [][2]string{
		{"(x ~ c)", "(x ~ (Sym d))"},
		{"(x |> c)", "(x |> (Sym d))"},
		{"((x ~ c) |> (Trans c (Sym c)))", "((x ~ (Sym d)) |> (Trans (Sym d) (Sym (Sym d))))"},
		{"(x ~ (Con T c d c))", "(x ~ (Con T (Sym d) d (Sym d)))"},
		{"(x ~ (Fun c (Nth 1 c)))", "(x ~ (Fun (Sym d) (Nth 1 (Sym d))))"},
		{"(x ~ (Inst c <c>))", "(x ~ (Inst (Sym d) <c>))"},
		{`(\x : T. (!b. ((y ~ c) (z |> c))))`, `(\x : T. (!b. ((y ~ (Sym d)) (z |> (Sym d)))))`},
		{"(let x : T = (y ~ c) in (z ~ c))", "(let x : T = (y ~ (Sym d)) in (z ~ (Sym d)))"},
		{"(case (x ~ c) : T of {K -> (y ~ c); L ~e -> (z ~ c)})", "(case (x ~ (Sym d)) : T of {K -> (y ~ (Sym d)); L ~e -> (z ~ (Sym d))})"},
		{"((x ~ c) @ T)", "((x ~ (Sym d)) @ T)"},
		// Where it is bound it is not free.
		{"(case (x ~ c) : T of {K ~c -> (y ~ c); L -> (z ~ c)})", "(case (x ~ (Sym d)) : T of {K ~c -> (y ~ c); L -> (z ~ (Sym d))})"},
		{"(case x : T of {K @a ~e ~c y -> (!b. (y |> (Trans c e)))})", "(case x : T of {K @a ~e ~c y -> (!b. (y |> (Trans c e)))})"},
		{"(case x : T of {K ~c -> (case (x ~ c) : T of {K -> (x ~ c)}); K ~e -> (case (x ~ c) : T of {K ~c -> (x ~ c)})})", "(case x : T of {K ~c -> (case (x ~ c) : T of {K -> (x ~ c)}); K ~e -> (case (x ~ (Sym d)) : T of {K ~c -> (x ~ c)})})"},
		// Variables and type variables are no proofs, though they are written alike; nor do their names bind any, not even within coercions.
		{"c", "c"},
		{`(\c : c. (c ~ c))`, `(\c : c. (c ~ (Sym d)))`},
		{"(!c. ((c @ c) |> c))", "(!c. ((c @ c) |> (Sym d)))"},
		{"(let c : c = (c ~ c) in (c ~ c))", "(let c : c = (c ~ (Sym d)) in (c ~ (Sym d)))"},
		{"(case c : c of {K @c -> (c ~ c); L c -> (c ~ c)})", "(case c : c of {K @c -> (c ~ (Sym d)); L c -> (c ~ (Sym d))})"},
		{"(x ~ <c>)", "(x ~ <c>)"},
		{"(x ~ (All c (Trans c <c>)))", "(x ~ (All c (Trans (Sym d) <c>)))"},
		{"(x |> (All c (All c (Inst c <c>))))", "(x |> (All c (All c (Inst (Sym d) <c>))))"},
	} {
		isPut(t, c[0], "proof", "c", "(Sym d)", c[1])
		isPut(t, c[0], "proof", "elsewhere", "(Sym d)", c[0])
		isPut(t, c[0], "proof", "c", "c", c[0])
	}
}

// L2: terms come in the place of a variable wherever it is free.
func TestPutVar(t *testing.T) {
	for _, c := range [][2]string{
		{"x", "(K y)"},
		{"y", "y"},
		{"(x x)", "((K y) (K y))"},
		{"((f x) (x @ a))", "((f (K y)) ((K y) @ a))"},
		{"(!a. x)", "(!a. (K y))"},
		{"(x ~ c)", "((K y) ~ c)"},
		{"(x |> c)", "((K y) |> c)"},
		{`(\z : a. x)`, `(\z : a. (K y))`},
		{"(let z : a = x in x)", "(let z : a = (K y) in (K y))"},
		{"(case x : a of {K -> x; L z -> x})", "(case (K y) : a of {K -> (K y); L z -> (K y)})"},
		// Where it is bound it is not free.
		{`(\x : a. x)`, `(\x : a. x)`},
		{`((\x : a. x) x)`, `((\x : a. x) (K y))`},
		{`(\z : a. (x (\x : a. (z x))))`, `(\z : a. ((K y) (\x : a. (z x))))`},
		{"(let x : a = x in x)", "(let x : a = (K y) in x)"},
		{"(let x : a = (let x : a = x in x) in (let z : a = x in x))", "(let x : a = (let x : a = (K y) in x) in (let z : a = x in x))"},
		{"(let z : a = x in (let x : a = (x z) in (x z)))", "(let z : a = (K y) in (let x : a = ((K y) z) in (x z)))"},
		{"(case x : a of {K x -> x; L -> x})", "(case (K y) : a of {K x -> x; L -> (K y)})"},
		{"(case x : a of {K @b ~c z x -> (x (z |> c)); K z -> (x z)})", "(case (K y) : a of {K @b ~c z x -> (x (z |> c)); K z -> ((K y) z)})"},
		{"(case (case x : a of {K x -> x}) : a of {K -> (case x : a of {K x -> x})})", "(case (case (K y) : a of {K x -> x}) : a of {K -> (case (K y) : a of {K x -> x})})"},
		// Type variables and proofs are no variables, though they are written alike; nor do their names bind any.
		{"(!x. x)", "(!x. (K y))"},
		{"(x @ x)", "((K y) @ x)"},
		{"(x ~ x)", "((K y) ~ x)"},
		{"(x |> (Trans x <x>))", "((K y) |> (Trans x <x>))"},
		{`(\z : x. x)`, `(\z : x. (K y))`},
		{"(let z : x = x in x)", "(let z : x = (K y) in (K y))"},
		{"(case x : x of {K @x -> x; L ~x -> x; M z -> x})", "(case (K y) : x of {K @x -> (K y); L ~x -> (K y); M z -> (K y)})"},
	} {
		isPut(t, c[0], "var", "x", "(K y)", c[1])
		isPut(t, c[0], "var", "elsewhere", "(K y)", c[0])
		isPut(t, c[0], "var", "x", "x", c[0])
	}
}

// L2: whatever is put, it is there as it is: what it has in the place of the name is not put into it again.
func TestPutOnce(t *testing.T) {
	isPut(t, "(f x)", "var", "x", "(x x)", "(f (x x))")
	isPut(t, "(x @ a)", "type", "a", "a -> a", "(x @ a -> a)")
	isPut(t, "(x ~ (Sym c))", "proof", "c", "(Trans c c)", "(x ~ (Sym (Trans c c)))")
	isPut(t, "(x @ a)", "type", "a", "forall a. a", "(x @ forall a. a)")
	isPut(t, "(x y)", "var", "x", `(\x : a. (let y : a = x in y))`, `((\x : a. (let y : a = x in y)) y)`)
	isPut(t, "(x ~ c)", "proof", "c", "(All a (Fun <a> d))", "(x ~ (All a (Fun <a> d)))")
}

// L2: a step of a case, as chapter 16 makes it: types, proofs and arguments in the places of an alternative's names.
func TestPutAll(t *testing.T) {
	a := term(t, "(case x : N of {K @a @b ~c ~d y z -> ((f @ a) ((y |> (Trans c <b>)) (z ~ d)))})").Alts[0].Body
	a = a.PutType("a", typ(t, "N")).PutType("b", typ(t, "T N"))
	a = a.PutCo("c", co(t, "<T N>")).PutCo("d", co(t, "(Sym <N>)"))
	a = a.PutVar("y", term(t, "(L @ N)")).PutVar("z", con("Z"))
	if want := "((f @ N) (((L @ N) |> (Trans <T N> <T N>)) (Z ~ (Sym <N>))))"; a.Print() != want {
		t.Error(a.Print())
	}
}

// R5: what is handed in is not changed, neither the term nor what is put into it, however often.
func TestNothingChanges(t *testing.T) {
	const s = `(let x : a = (\y : T a. ((x @ a) ~ (Con T c <a>))) in (case (f x) : a of {K @b ~d z -> (x |> (Trans c (All e <a -> e>))); L -> (f x)}))`
	x, u, ty, c := term(t, s), term(t, "(!q. (q x))"), typ(t, "forall b. U b a"), co(t, "(Sym (Trans c <a>))")
	want := map[string]string{}
	for range 3 {
		for how, got := range map[string]fc.Term{"var": x.PutVar("f", u), "type": x.PutType("a", ty), "proof": x.PutCo("c", c), "all": x.PutCo("c", c).PutVar("f", u).PutType("a", ty)} {
			if was, again := want[how]; again && got.Print() != was {
				t.Errorf("%s: %q, and then %q", how, was, got.Print())
			}
			want[how] = got.Print()
		}
		if x.Print() != s || u.Print() != "(!q. (q x))" || ty.Print() != "forall b. U b a" || c.Print() != "(Sym (Trans c <a>))" {
			t.Fatalf("%q, %q, %q, %q", x.Print(), u.Print(), ty.Print(), c.Print())
		}
	}
}

// L2: lists with room at their ends are not written into.
func TestRoomStays(t *testing.T) {
	kids := append(make([]fc.Term, 0, 9), v("f"), v("x"))
	alts := append(make([]fc.Alt, 0, 9), fc.Alt{Con: "K", Body: v("x")})
	x := fc.Term{Kind: api.FCase, T: typ(t, "a"), Kids: []fc.Term{{Kind: api.FApp, Kids: kids}}, Alts: alts}
	if got := x.PutVar("x", con("Z")).Print(); got != "(case (f Z) : a of {K -> Z})" {
		t.Error(got)
	}
	if kids[1].Name != "x" || alts[0].Body.Name != "x" || !reflect.DeepEqual(kids[:3][2], fc.Term{}) || !reflect.DeepEqual(alts[:2][1], fc.Alt{}) {
		t.Error(kids, alts)
	}
}
