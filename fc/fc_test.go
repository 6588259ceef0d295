package fc_test

import (
	"reflect"
	"strings"
	"testing"

	"savant/api"
	"savant/coerce"
	"savant/fc"
	"savant/types"
)

// parsed is what parse reads of a text that must be one of its kind.
func parsed[T any](t *testing.T, parse func(s string) (T, api.Errno), s string) T {
	t.Helper()
	x, e := parse(s)
	if e != api.OK {
		t.Fatalf("%.80q: %v", s, e)
	}
	return x
}

func defs(t *testing.T, s string) []fc.Def {
	t.Helper()
	return parsed(t, fc.Parse, s)
}

func term(t *testing.T, s string) fc.Term {
	t.Helper()
	return parsed(t, fc.ParseTerm, s)
}

func typ(t *testing.T, s string) types.Type {
	t.Helper()
	return parsed(t, types.Parse, s)
}

func co(t *testing.T, s string) coerce.Co {
	t.Helper()
	return parsed(t, coerce.Parse, s)
}

// areRefused asks whether Parse answers this error and no definitions.
func areRefused(t *testing.T, s string, want api.Errno) {
	t.Helper()
	if l, e := fc.Parse(s); e != want || len(l) > 0 {
		t.Errorf("Parse(%.60q) answers %.100s, %v, not %v", s, trees(l), e, want)
	}
}

// isRefused asks whether ParseTerm answers this error and no term.
func isRefused(t *testing.T, s string, want api.Errno) {
	t.Helper()
	if x, e := fc.ParseTerm(s); e != want || !reflect.DeepEqual(x, fc.Term{}) {
		t.Errorf("ParseTerm(%.60q) answers %.100s, %v, not %v", s, tree(x), e, want)
	}
}

func v(name string) fc.Term { return fc.Term{Kind: api.FVar, Name: name} }

func con(name string) fc.Term { return fc.Term{Kind: api.FCon, Name: name} }

func lam(name string, t types.Type, body fc.Term) fc.Term {
	return fc.Term{Kind: api.FLam, Name: name, T: t, Kids: []fc.Term{body}}
}

func tyLam(name string, body fc.Term) fc.Term {
	return fc.Term{Kind: api.FTyLam, Name: name, Kids: []fc.Term{body}}
}

func app(f, x fc.Term) fc.Term { return fc.Term{Kind: api.FApp, Kids: []fc.Term{f, x}} }

func tyApp(x fc.Term, t types.Type) fc.Term {
	return fc.Term{Kind: api.FTyApp, T: t, Kids: []fc.Term{x}}
}

func coApp(x fc.Term, c coerce.Co) fc.Term {
	return fc.Term{Kind: api.FCoApp, Co: c, Kids: []fc.Term{x}}
}

func cast(x fc.Term, c coerce.Co) fc.Term {
	return fc.Term{Kind: api.FCast, Co: c, Kids: []fc.Term{x}}
}

func let(name string, t types.Type, x, in fc.Term) fc.Term {
	return fc.Term{Kind: api.FLet, Name: name, T: t, Kids: []fc.Term{x, in}}
}

func choice(x fc.Term, t types.Type, alts ...fc.Alt) fc.Term {
	return fc.Term{Kind: api.FCase, T: t, Kids: []fc.Term{x}, Alts: alts}
}

// L1: the chapter's examples, and terms of chapters 13 and 14.
func TestExamples(t *testing.T) {
	if got := fc.Print(defs(t, `id:forall a.a->a=(!a.(\x:a.x))`)); got != `id : forall a. a -> a = (!a. (\x : a. x))` {
		t.Error(got)
	}
	if got := term(t, `(case x:T of{K @b ~c y->(y|>(Sym c));L->z})`).Print(); got != `(case x : T of {K @b ~c y -> (y |> (Sym c)); L -> z})` {
		t.Error(got)
	}
	for _, s := range []string{
		`((K @ Int) ~ <Int>)`, `(f x)`, `(let x : T = y in x)`,
		`(!a. (\x : E a. (case x : a of {L ~c y -> (y |> (Sym c)); U z -> z})))`,
		`((f @ Int) (((L @ Int) ~ <Int>) I))`, `(let x : Int = ((id @ Int) I) in (J x))`,
	} {
		if got := term(t, s).Print(); got != s {
			t.Errorf("%q is printed %q", s, got)
		}
	}
	for _, s := range []string{`(f x y)`, `\x : a. x`, `(f)`, `(x @ )`} {
		isRefused(t, s, api.ErrTerm)
	}
}

// L1: each text is read as this term, exactly.
func TestTerms(t *testing.T) {
	x, y, f, k, a, c := v("x"), v("y"), v("f"), con("K"), typ(t, "a"), co(t, "c")
	for s, want := range map[string]fc.Term{
		"x":                                     x,
		"K":                                     k,
		"a_1Z":                                  v("a_1Z"),
		`(\x : a. y)`:                           lam("x", a, y),
		`(\x:forall a.a->a.(x x))`:              lam("x", typ(t, "forall a. a -> a"), app(x, x)),
		`(\x:(forall a.a).x)`:                   lam("x", typ(t, "forall a. a"), x),
		`(\x : T a ?1. (\y : a. K))`:            lam("x", typ(t, "T a ?1"), lam("y", a, k)),
		"(!a. x)":                               tyLam("a", x),
		"(!a.(!b.K))":                           tyLam("a", tyLam("b", k)),
		"(f x)":                                 app(f, x),
		"((f x) y)":                             app(app(f, x), y),
		"(f (x y))":                             app(f, app(x, y)),
		"(K K)":                                 app(k, k),
		`((\x : a. x) (!a. y))`:                 app(lam("x", a, x), tyLam("a", y)),
		"(x @ a)":                               tyApp(x, a),
		"(x@forall a b.T a->b)":                 tyApp(x, typ(t, "forall a b. T a -> b")),
		"(x@(a))":                               tyApp(x, a),
		"((K @ a) @ T a)":                       tyApp(tyApp(k, a), typ(t, "T a")),
		"(x ~ c)":                               coApp(x, c),
		"(K~<a>)":                               coApp(k, co(t, "<a>")),
		"((x ~ c) ~ (Trans c (Sym c)))":         coApp(coApp(x, c), co(t, "(Trans c (Sym c))")),
		"(x |> c)":                              cast(x, c),
		"((f x)|>(Inst(All a<a>)<T a>))":        cast(app(f, x), co(t, "(Inst (All a <a>) <T a>)")),
		"((x |> (Nth 3 c)) |> (Con T c))":       cast(cast(x, co(t, "(Nth 3 c)")), co(t, "(Con T c)")),
		"(let x : a = y in f)":                  let("x", a, y, f),
		"(let x:a->?2=(let y:a=K in y)in(f x))": let("x", typ(t, "a -> ?2"), let("y", a, k, y), app(f, x)),
		"(let x : a = x in (let x : a = y in x))":    let("x", a, x, let("x", a, y, x)),
		"(case x : a of {})":                         choice(x, a),
		"(case(f x):T a->a of{})":                    choice(app(f, x), typ(t, "T a -> a")),
		"(case x : forall b. b of {K -> y})":         choice(x, typ(t, "forall b. b"), fc.Alt{Con: "K", Body: y}),
		"(case x : a of {K x y -> f; L -> K})":       choice(x, a, fc.Alt{Con: "K", Vars: []string{"x", "y"}, Body: f}, fc.Alt{Con: "L", Body: k}),
		"(case x : a of {K @a -> x; L ~a -> y})":     choice(x, a, fc.Alt{Con: "K", Types: []string{"a"}, Body: x}, fc.Alt{Con: "L", Cos: []string{"a"}, Body: y}),
		"(case x : a of {K @ a@b ~ c~d x y->(f x)})": choice(x, a, fc.Alt{Con: "K", Types: []string{"a", "b"}, Cos: []string{"c", "d"}, Vars: []string{"x", "y"}, Body: app(f, x)}),
		"(case (case x : a of {}) : a of {K @a @a ~a ~a a a -> (case y : a of {K -> x}); K -> y})": choice(choice(x, a), a,
			fc.Alt{Con: "K", Types: []string{"a", "a"}, Cos: []string{"a", "a"}, Vars: []string{"a", "a"}, Body: choice(y, a, fc.Alt{Con: "K", Body: x})}, fc.Alt{Con: "K", Body: y}),
	} {
		if got, e := fc.ParseTerm(s); e != api.OK || !reflect.DeepEqual(got, want) {
			t.Errorf("ParseTerm(%q) answers %s, %v, not %s", s, tree(got), e, tree(want))
		}
		if got, e := fc.Parse("f : ?3 = " + s); e != api.OK || !reflect.DeepEqual(got, []fc.Def{{Name: "f", T: typ(t, "?3"), E: want}}) {
			t.Errorf("Parse of a definition of %q answers %s, %v", s, trees(got), e)
		}
	}
}

// L1: each text is read as these definitions, exactly.
func TestDefs(t *testing.T) {
	id := fc.Def{Name: "id", T: typ(t, "forall a. a -> a"), E: tyLam("a", lam("x", typ(t, "a"), v("x")))}
	f := fc.Def{Name: "f", T: typ(t, "T"), E: con("K")}
	for s, want := range map[string][]fc.Def{
		"":                               nil,
		" \n\t # nothing":                nil,
		"f : T = K":                      {f},
		"f:T=K;f:T=K":                    {f, f},
		`id:forall a.a->a=(!a.(\x:a.x))`: {id},
		"f : T = K; id : forall a. a -> a = (!a. (\\x : a. x)); f : (T) = K # ;": {f, id, f},
	} {
		if got, e := fc.Parse(s); e != api.OK || !reflect.DeepEqual(got, want) {
			t.Errorf("Parse(%q) answers %s, %v, not %s", s, trees(got), e, trees(want))
		}
	}
}

// L1: what stands between tokens does not matter.
func TestBetweenTokens(t *testing.T) {
	want := defs(t, `f : N a = (\x : T. (!a. (let y : N = ((x @ a) ~ <a>) in (case (f x) : a of {K @b ~c y z -> (y |> (Sym c)); L -> y}))))`)
	for _, s := range []string{
		`f:N a=(\x:T.(!a.(let y:N=((x@a)~<a>)in(case(f x):a of{K@b~c y z->(y|>(Sym c));L->y}))))`,
		"\nf\t: N # (\n a = ( \\ x : T . ( ! a . ( let y : N = ( ( x @ a ) ~ < a > ) in ( case ( f x ) : a of { K @ b ~ c y z -> ( y |> ( Sym c ) ) ; L -> y } ) ) ) ) # ;",
		`f : (N (a)) = (\x : ((T)). (!a. (let y : (N) = ((x @ (a)) ~ <(a)>) in (case (f x) : (a) of {K @b ~c y z -> (y |> (Sym c)); L -> y}))))`,
	} {
		if l, e := fc.Parse(s); e != api.OK || !reflect.DeepEqual(l, want) {
			t.Errorf("Parse(%q) answers %s, %v", s, trees(l), e)
		}
	}
}

// L1: texts that are no term.
func TestNoTerm(t *testing.T) {
	for _, s := range []string{
		"", " # x", "?1", "1", "in", "x y", "x)", "(x", "(x)", "((x))", "()", "(K)", "((f x))", "(f x y)", "(f x) y", "f (x)", "x @ a", "x ~ c", "x |> c", "x;", "x : a", "(x : a)", "(f ?1)", "(f 1)", "(f, x)", "(f = x)", "(f . x)", "(f -> x)", "{x}", "(f {x})", "[x]", "<x>", "f : a = x", "(f x", "f x)", "(@ a)", "(~ c)", "(|> c)", "(in x)", "(of x)", "(data x)", "(forall x)", "(f \\x : a. x)", "(f !a. x)", "(f let x : a = y in x)",
		`\x : a. x`, `(\x. x)`, `(\x : a -> x)`, `(\x : a x)`, `(\x : a.)`, `(\x : . x)`, `(\x a. x)`, `(\x = a. x)`, `(\X : a. x)`, `(\x y : a. x)`, `(\ : a. x)`, `(\(x) : a. x)`, `(\x : a. x y)`, `(\x : a. (x))`, `(\x : forall a. a)`, `(\x : forall a. x)`, `(\x : a b. x)`, `(\x : <a>. x)`, `(\?1 : a. x)`, `(\in : a. x)`, `(\x : a; x)`, `(\x : a. \x : a. x)`, `((\x : a. x)`, `(\x : a. x))`,
		"!a. x", "(!a x)", "(!a. )", "(!. x)", "(!A. x)", "(!a b. x)", "(!(a). x)", "(!a : T. x)", "(!a. x y)", "(!?1. x)", "(!let. x)", "(a. x)", "(!a -> x)",
		"(x @)", "(x @ @ a)", "(x @ a @ b)", "(x @ a b)", "(x @ <a>)", "(x @ a ~ c)", "(x @ forall)", "(x @ a -> )", "(@ x a)", "(x @ (a)", "(x @ 1)",
		"(x ~)", "(x ~ ~ c)", "(x ~ a b)", "(x ~ T)", "(x ~ (c))", "(x ~ <a)", "(x ~ (Sym))", "(x ~ (Foo c))", "(x ~ c ~ c)", "(x ~ ?1)", "(x ~ (Sym c) d)", "(x ~ <a> b)",
		"(x |>)", "(x |> T)", "(x |> (c))", "(x |> c |> c)", "(x |> c d)", "(x > c)", "(x |> |> c)", "(x |> (Trans c))",
		"let x : a = y in x", "(let x = y in x)", "(let x : a = y)", "(let x : a y in x)", "(let x : a = in x)", "(let x : a = y in)", "(let x : = y in x)", "(let : a = y in x)", "(let X : a = y in x)", "(let x : a = y in x y)", "(let x : a = y z in x)", "(let x : a = (y) in x)", "(let (x) : a = y in x)", "(let x a = y in x)", "(let x : a in y)", "(let x : a = y; z : a = y in x)", "(let in : a = y in x)", "(let x : a = y of x)", "(let x : a = y in x in x)",
		"case x : a of {}", "(case x of {})", "(case x : of {})", "(case x : a {})", "(case x : a of)", "(case x : a of {)", "(case x : a of })", "(case : a of {})", "(case x y : a of {})", "(case (x) : a of {})", "(case x : a b of {})", "(case x : a of {} x)", "(case x : a of {}", "(case x : a of {K})", "(case x : a of {K ->})", "(case x : a of {-> x})", "(case x : a of {k -> x})", "(case x : a of {K -> x;})", "(case x : a of {;K -> x})", "(case x : a of {K -> x;; K -> x})", "(case x : a of {K -> x, K -> x})", "(case x : a of {K -> x K -> x})", "(case x : a of {K -> x y})", "(case x : a of {K -> (x)})", "(case x : a of K -> x)", "(case x : a of (K -> x))", "(case x : a in {})",
		"(case x : a of {K x @a -> x})", "(case x : a of {K ~c @a -> x})", "(case x : a of {K x ~c -> x})", "(case x : a of {K @a x ~c -> x})", "(case x : a of {K @A -> x})", "(case x : a of {K ~C -> x})", "(case x : a of {K X -> x})", "(case x : a of {K @ -> x})", "(case x : a of {K ~ -> x})", "(case x : a of {K @ ~c -> x})", "(case x : a of {K @@a -> x})", "(case x : a of {K @(a) -> x})", "(case x : a of {K (x) -> x})", "(case x : a of {K ~<a> -> x})", "(case x : a of {K @?1 -> x})", "(case x : a of {K ?1 -> x})", "(case x : a of {@a K -> x})", "(case x : a of {K |> c -> x})", "(case x : a of {K x : a -> x})", "(case x : a of {K x = x})", "(case x : a of {K in -> x})", "(case x : a of {K @of -> x})", "(case x : a of {K x . x})",
	} {
		isRefused(t, s, api.ErrTerm)
		areRefused(t, "f : a = "+s, api.ErrTerm)
	}
}

// L1: texts that are no definitions.
func TestNoDefs(t *testing.T) {
	for _, s := range []string{
		";", "x", "K", "f", "f :", "f : a", "f : a =", "f = x", "f : = x", ": a = x", "= x", "f a = x", "F : a = x", "?1 : a = x", "1 : a = x", "let : a = x", "(f) : a = x", "(f : a = x)", "f : a = x;", ";f : a = x", "f : a = x;; f : a = x", "f : a = x f : a = x", "f : a = x, f : a = x", "f x : a = x", "f : a = x y", "f : a = (x)", "f : a b = x", "f : <a> = x", "f : a := x", "f : a -> x", "f : a = g : a = x", "f : a = x : a", "f : a = x; g", "f : a = x; g : a", "f : a = x; x", "data N {}", "f : a", "f : a; f : a = x", "{f : a = x}", "f : a = x}", "f : a == x", "f : forall a = x", "f : forall a. = x", "let f : a = x",
	} {
		areRefused(t, s, api.ErrTerm)
		isRefused(t, s+" in", api.ErrTerm)
	}
}

// nested is a text so often within itself, in the place of $, with in at last.
func nested(way, in string, times int) string {
	begin, end, _ := strings.Cut(way, "$")
	return strings.Repeat(begin, times) + in + strings.Repeat(end, times)
}

func deepType(depth int) string { return nested("T ($)", "a", depth-1) }

func deepCo(depth int) string { return nested("(Sym $)", "c", depth-1) }

func deepTerm(depth int) string { return nested("(!a. $)", "x", depth-1) }

// L1: chapter 1's errors come first, then what is no term, then what is too deep.
func TestOrderOfErrors(t *testing.T) {
	for s, want := range map[string]api.Errno{
		"a - b":                           api.ErrLex,
		"$":                               api.ErrLex,
		"x 01":                            api.ErrLex,
		"(f ?x)":                          api.ErrLex,
		"(x | > c)":                       api.ErrLex,
		"abcdefghijklmnopq":               api.ErrLex,
		"; ; $":                           api.ErrLex,
		"x\r":                             api.ErrLex,
		deepTerm(120) + " $":              api.ErrLex,
		strings.Repeat("$", 3993):         api.ErrLong,
		strings.Repeat(";", 3993):         api.ErrLong,
		deepTerm(120) + " x":              api.ErrTerm,
		"(" + deepTerm(120):               api.ErrTerm,
		deepTerm(120) + ";":               api.ErrTerm,
		"(x @ " + deepType(60):            api.ErrTerm,
		"(x ~ " + deepCo(60):              api.ErrTerm,
		"(f (x ~ " + deepCo(60) + ") x)":  api.ErrTerm,
		"(case x : " + deepType(60) + ")": api.ErrTerm,
		deepTerm(120):                     api.ErrDeep,
	} {
		areRefused(t, "f : a = "+s, want)
		isRefused(t, "        "+s, want)
	}
	areRefused(t, "f : a = "+deepTerm(120)+"; f", api.ErrTerm)
	areRefused(t, "f : "+deepType(60)+" = x; f : ", api.ErrTerm)
	for n, want := range map[int]api.Errno{3992: api.OK, 3993: api.ErrLong} {
		if _, e := fc.Parse("f : a = " + strings.Repeat(" ", n-1) + "x"); e != want {
			t.Errorf("%d: %v", n, e)
		}
		if _, e := fc.ParseTerm(strings.Repeat(" ", n+7) + "x"); e != want {
			t.Errorf("%d: %v", n, e)
		}
	}
}

// ways are texts of terms that are one deeper than what stands in the place of $.
var ways = []string{
	`(\x:a.$)`, "(!a.$)", "(f $)", "($ x)", "($@a)", "($~c)", "($|>c)", "(let x:a=$ in y)", "(let x:a=y in $)", "(case $:a of{})", "(case $:a of{K->x})", "(case x:a of{K->$})", "(case x:a of{K->x;L@a~c y->$;K->x})",
}

// L1: at most 100 terms within one another, wherever the deepest one stands.
func TestTooDeepTerms(t *testing.T) {
	for _, way := range ways {
		for depth, want := range map[int]api.Errno{1: api.OK, 50: api.OK, 51: api.OK, 99: api.OK, 100: api.OK, 101: api.ErrDeep, 102: api.ErrDeep} {
			has(t, nested(way, "x", depth-1), want)
			has(t, nested(way, "K", depth-1), want)
		}
		for _, other := range ways {
			has(t, nested(other, nested(way, nested(other, "x", 49), 1), 49), api.OK)
			has(t, nested(other, nested(way, nested(other, "x", 49), 1), 50), api.ErrDeep)
		}
	}
	has(t, "(case x:a of{"+strings.Repeat("K->(x x);", 300)+"K->x})", api.OK)
}

// has asks what a term's text is told, alone and in definitions; chapter 1 takes none that is too long.
func has(t *testing.T, s string, want api.Errno) {
	t.Helper()
	if len(s) > api.MaxInput-40 {
		return
	}
	if want != api.OK {
		isRefused(t, s, want)
		areRefused(t, "f:a="+s, want)
		areRefused(t, "g:a=x;f:a="+s+";g:a=x", want)
		return
	}
	term(t, s)
	defs(t, "f:a="+s)
	defs(t, "g:a=x;f:a="+s+";g:a=x")
}

// L1: types are at most 50 deep, and at most 50 coercions stand within one another, wherever they stand.
func TestTooDeepWithin(t *testing.T) {
	atTypes := []string{`(\x:$.x)`, "(x@$)", "(let x:$=y in z)", "(case x:$ of{})", "(case x:$ of{K->x})", "(x~<$>)", "(x|><$>)", "(x~(Inst c<$>))", "(x|>(Fun c(Trans<$>c)))", "(x~" + nested("(Sym $)", "<$>", 49) + ")"}
	for _, s := range atTypes {
		hasWithin(t, s, deepType(50), deepType(51))
	}
	for _, way := range []string{"(Sym $)", "(Trans $ c)", "(Trans c $)", "(Con T $)", "(Con T c $ c)", "(Fun $ c)", "(Fun c $)", "(All a $)", "(Nth 0 $)", "(Inst $<a>)"} {
		for _, in := range []string{"c", "<a>", "<" + deepType(50) + ">"} {
			hasWithin(t, "(x~$)", nested(way, in, 49), nested(way, in, 50))
			hasWithin(t, "(x|>$)", nested(way, in, 49), nested(way, in, 50))
		}
	}
	defs(t, "f:"+deepType(50)+"=x")
	areRefused(t, "f:"+deepType(51)+"=x", api.ErrDeep)
	areRefused(t, "g:a=x;f:"+deepType(51)+"=x;g:a=x", api.ErrDeep)
	has(t, deepTerm(98)[:5*97]+"(x~"+deepCo(50)+")"+strings.Repeat(")", 97), api.OK)
}

// hasWithin asks whether what stands in the place of $ may be one thing, and not another one, wherever that is.
func hasWithin(t *testing.T, s, may, mayNot string) {
	t.Helper()
	places := []string{"$"}
	for _, way := range ways {
		places = append(places, way, nested(way, way, 1))
	}
	for _, place := range places {
		text := strings.Replace(place, "$", s, 1)
		has(t, strings.Replace(text, "$", may, 1), api.OK)
		has(t, strings.Replace(text, "$", mayNot, 1), api.ErrDeep)
	}
}

// L1: how terms are written.
func TestPrintTerms(t *testing.T) {
	for s, want := range map[string]string{
		"x":                                      "x",
		"K":                                      "K",
		`(\x:a.x)`:                               `(\x : a. x)`,
		`( \ x : ( T ( a ) ) . x )`:              `(\x : T a. x)`,
		`(\x:forall a.forall b.a->b.x)`:          `(\x : forall a b. a -> b. x)`,
		"(!a.x)":                                 "(!a. x)",
		"( ! a . ( ! b . K ) )":                  "(!a. (!b. K))",
		"(f x)":                                  "(f x)",
		"((f x)(g y))":                           "((f x) (g y))",
		"(x@a)":                                  "(x @ a)",
		"(x@(T(U a)->(b->c)))":                   "(x @ T (U a) -> b -> c)",
		"((x@forall a.a)@?7)":                    "((x @ forall a. a) @ ?7)",
		"(x~c)":                                  "(x ~ c)",
		"((x@a)~<a>)":                            "((x @ a) ~ <a>)",
		"(x~(Trans c(Inst(Nth 0 d)<T a>)))":      "(x ~ (Trans c (Inst (Nth 0 d) <T a>)))",
		"(x|>c)":                                 "(x |> c)",
		"((f x)|>(Con T))":                       "((f x) |> (Con T))",
		"(let x:a=y in z)":                       "(let x : a = y in z)",
		"(let x:(a)->a=(let y:a=K in y)in(f x))": "(let x : a -> a = (let y : a = K in y) in (f x))",
		"(case x:a of{})":                        "(case x : a of {})",
		"( case ( f x ) : a of { } )":            "(case (f x) : a of {})",
		"(case x:(T a)of{K->x})":                 "(case x : T a of {K -> x})",
		"(case x:a of{K->x;L->(f y)})":           "(case x : a of {K -> x; L -> (f y)})",
		"(case x:a of{K y->x})":                  "(case x : a of {K y -> x})",
		"(case x:a of{K@a->x})":                  "(case x : a of {K @a -> x})",
		"(case x:a of{K~c->x})":                  "(case x : a of {K ~c -> x})",
		"(case x:a of{K @ a @ b ~ c ~ d x y z->(x|>c)})":                           "(case x : a of {K @a @b ~c ~d x y z -> (x |> c)})",
		"(case x:a of{K@a y->(case y:a of{});L~c->(case x:a of{L->x})})":           "(case x : a of {K @a y -> (case y : a of {}); L ~c -> (case x : a of {L -> x})})",
		`((\x:a.x)((!a.x)@(forall a.a)->a))`:                                       `((\x : a. x) ((!a. x) @ (forall a. a) -> a))`,
		"(case(case x:forall a.a of{K->x}):forall b.b of{K->(let x:b=x in x)})":    "(case (case x : forall a. a of {K -> x}) : forall b. b of {K -> (let x : b = x in x)})",
		`(let f:a->a=(\x:a.(x|>(Fun<a>(Sym(All a<a->?1>)))))in((f@a)~(Con T<a>)))`: `(let f : a -> a = (\x : a. (x |> (Fun <a> (Sym (All a <a -> ?1>))))) in ((f @ a) ~ (Con T <a>)))`,
	} {
		if got := term(t, s).Print(); got != want {
			t.Errorf("%q is printed %q, not %q", s, got, want)
		}
		if got := fc.Print(defs(t, "f:(a)->a="+s)); got != "f : a -> a = "+want {
			t.Errorf("a definition of %q is printed %q", s, got)
		}
	}
}

// L1: how definitions are written.
func TestPrintDefs(t *testing.T) {
	for s, want := range map[string]string{
		"":                        "",
		"#":                       "",
		"f:a=x":                   "f : a = x",
		"f:a=x;g:forall a.T(a)=K": "f : a = x; g : forall a. T a = K",
		"f:a=(!a.x);f:?1=x;g:a=f": "f : a = (!a. x); f : ?1 = x; g : a = f",
	} {
		if got := fc.Print(defs(t, s)); got != want {
			t.Errorf("%q is printed %q, not %q", s, got, want)
		}
	}
}

// R4: no pieces are no pieces, whether there is a list or not.
func TestNilAndEmpty(t *testing.T) {
	kids, alts, names := []fc.Term{}, []fc.Alt{}, []string{}
	leaf := fc.Term{Kind: api.FVar, Name: "x", Kids: kids, Alts: alts}
	x := fc.Term{Kind: api.FCase, T: typ(t, "a"), Kids: []fc.Term{leaf}, Alts: []fc.Alt{{Con: "K", Types: names, Cos: names, Vars: names, Body: leaf}}}
	for range 2 {
		if got := x.Print(); got != "(case x : a of {K -> x})" {
			t.Errorf("%q", got)
		}
		if got := x.PutVar("x", con("K")).PutType("a", typ(t, "T")).PutCo("c", co(t, "d")).Print(); got != "(case K : T of {K -> K})" {
			t.Errorf("%q", got)
		}
		x = term(t, x.Print())
	}
	x.Alts = alts
	if got := fc.Print([]fc.Def{{Name: "f", T: typ(t, "a"), E: x}}); got != "f : a = (case x : a of {})" {
		t.Errorf("%q", got)
	}
	if fc.Print(nil) != "" || fc.Print([]fc.Def{}) != "" {
		t.Error("there is something")
	}
}

// R6: two calls answer alike.
func TestAnswersAlike(t *testing.T) {
	const s = `f : T a = (\x : a. (case (f x) : a of {K @b ~c y -> (y |> (Trans c (Inst d <b>))); L -> (x @ a)})); g : ?1 = K`
	want := defs(t, s)
	for range 20 {
		if got := defs(t, s); !reflect.DeepEqual(got, want) || fc.Print(got) != s {
			t.Fatal(trees(got))
		}
	}
}

// R1: of trees that no text writes nothing is promised but that each call ends, and does not panic.
func TestNoTrees(t *testing.T) {
	x, c := v("x"), co(t, "c")
	none := types.Type{Kind: api.Fun}
	odd := []fc.Term{{}, {Kind: -1}, {Kind: 99, Name: "x", Kids: []fc.Term{x}}, {Kind: api.FVar, Kids: []fc.Term{x}, Alts: []fc.Alt{{}}}, tyApp(x, none), lam("x", none, x), cast(x, coerce.Co{}), cast(x, coerce.Co{Kind: 99, Kids: []coerce.Co{c}}), coApp(x, coerce.Co{Kind: api.CoAll, Name: "a"}), coApp(x, coerce.Co{Kind: api.CoInst, T: none}), choice(x, none, fc.Alt{}, fc.Alt{Types: []string{""}, Cos: []string{""}, Vars: []string{""}})}
	for kind := api.FVar; kind <= api.FCast; kind++ {
		odd = append(odd, fc.Term{Kind: kind}, fc.Term{Kind: kind, Kids: []fc.Term{{}}}, fc.Term{Kind: kind, Kids: []fc.Term{x, {}, x}}, fc.Term{Kind: kind, T: none, Co: c, Alts: []fc.Alt{{Body: x}}})
	}
	for _, x := range odd {
		odd = append(odd, lam("", types.Type{}, x), tyLam("", x), app(x, x), let("x", none, x, x), cast(x, c), choice(x, none, fc.Alt{Body: x}))
	}
	for _, x := range odd {
		x.Print()
		fc.Print([]fc.Def{{}, {E: x, T: none}})
		for _, name := range []string{"", "x", "a", "c"} {
			x.PutVar(name, x).Print()
			x.PutType(name, none).Print()
			x.PutCo(name, x.Co).Print()
		}
	}
}

// L1, L2: each call ends with 2^16 parts within one another, in good time.
func TestDeepEnds(t *testing.T) {
	const deep = 1 << 16
	x, a, c := v("x"), typ(t, "a"), co(t, "c")
	manyTypes, manyCos := a, c
	for range deep - 1 {
		manyTypes = types.Type{Kind: api.Con, Name: "T", Args: []types.Type{manyTypes}}
		manyCos = coerce.Co{Kind: api.CoAll, Name: "b", Kids: []coerce.Co{manyCos}}
	}
	endsWith(t, "types", tyApp(x, manyTypes))
	endsWith(t, "coercions", cast(x, manyCos))
	for way, deeper := range map[string]func(e fc.Term) fc.Term{
		"lam":   func(e fc.Term) fc.Term { return lam("y", a, e) },
		"tylam": func(e fc.Term) fc.Term { return tyLam("b", e) },
		"left":  func(e fc.Term) fc.Term { return app(e, x) },
		"right": func(e fc.Term) fc.Term { return app(x, e) },
		"tyapp": func(e fc.Term) fc.Term { return tyApp(e, a) },
		"coapp": func(e fc.Term) fc.Term { return coApp(e, c) },
		"let":   func(e fc.Term) fc.Term { return let("y", a, e, x) },
		"in":    func(e fc.Term) fc.Term { return let("y", a, x, e) },
		"case":  func(e fc.Term) fc.Term { return choice(e, a, fc.Alt{Con: "K", Body: x}) },
		"alt":   func(e fc.Term) fc.Term { return choice(x, a, fc.Alt{Con: "K", Vars: []string{"y"}, Body: e}) },
		"cast":  func(e fc.Term) fc.Term { return cast(e, c) },
	} {
		e := x
		for range deep - 1 {
			e = deeper(e)
		}
		endsWith(t, way, e)
	}
}

// endsWith puts something in the places of names that are free deep within a term.
func endsWith(t *testing.T, way string, e fc.Term) {
	t.Helper()
	for _, put := range []fc.Term{e.PutVar("x", v("z")), e.PutType("a", typ(t, "z")), e.PutCo("c", co(t, "z"))} {
		was, s := e.Print(), put.Print()
		if len(s) != len(was) || len(s) < 1<<16 {
			t.Errorf("%s: %.80q", way, s)
		}
	}
}

// L1: texts as long as one may be are read, or not, in good time.
func TestLongTexts(t *testing.T) {
	for _, s := range []string{"(", `(\x:a.`, "(!a.", "(let x:a=", "(let x:a=y in ", "(case ", "(case x:a of{K->", "(x(", "((x ", "(x@(", "(x~(Sym", "(x~<(", "f:a=x;", "(case x:a of{K@a"} {
		isRefused(t, strings.Repeat(s, api.MaxInput/len(s)), api.ErrTerm)
		areRefused(t, "f:a="+strings.Repeat(s, (api.MaxInput-4)/len(s)), api.ErrTerm)
	}
	if x := term(t, "(case x:a of{K"+strings.Repeat("@a", 600)+strings.Repeat("~c", 600)+strings.Repeat(" x", 600)+"->x})"); len(x.Alts[0].Types) != 600 || len(x.Alts[0].Cos) != 600 || len(x.Alts[0].Vars) != 600 {
		t.Error(tree(x))
	}
	if l := defs(t, "f:a=x"+strings.Repeat(";f:a=x", 600)); len(l) != 601 {
		t.Error(len(l))
	}
	isRefused(t, nested("(!a.$)", "x", 700), api.ErrDeep)
	isRefused(t, nested("(x $)", "x", 900), api.ErrDeep)
	isRefused(t, "(x~"+nested("(Sym $)", "c", 600)+")", api.ErrDeep)
}
