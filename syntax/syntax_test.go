package syntax_test

import (
	"reflect"
	"strings"
	"testing"

	"savant/api"
	"savant/lex"
	"savant/syntax"
	"savant/types"
)

// parsed is the program of a text that must be one.
func parsed(t *testing.T, s string) []syntax.Decl {
	t.Helper()
	l, e := syntax.Parse(s)
	if e != api.OK {
		t.Fatalf("Parse(%q): %v", s, e)
	}
	return l
}

// expr is the expression of a text that must be one.
func expr(t *testing.T, s string) syntax.Expr {
	t.Helper()
	x, e := syntax.ParseExpr(s)
	if e != api.OK {
		t.Fatalf("ParseExpr(%q): %v", s, e)
	}
	return x
}

func typ(t *testing.T, s string) types.Type {
	t.Helper()
	x, e := types.Parse(s)
	if e != api.OK {
		t.Fatalf("types.Parse(%q): %v", s, e)
	}
	return x
}

// words are the texts of a text's tokens.
func words(t *testing.T, s string) []string {
	t.Helper()
	l, _, e := lex.Scan(s)
	if e != api.OK {
		t.Fatalf("Scan(%q): %v", s, e)
	}
	var w []string
	for _, x := range l {
		w = append(w, x.Text)
	}
	return w
}

// isRefused asks whether Parse answers this error and no program.
func isRefused(t *testing.T, s string, want api.Errno) {
	t.Helper()
	if l, e := syntax.Parse(s); e != want || len(l) > 0 {
		t.Errorf("Parse(%.60q) answers %s, %v, not %v", s, trees(l), e, want)
	}
}

// isNoExpr asks whether ParseExpr answers this error and no expression.
func isNoExpr(t *testing.T, s string, want api.Errno) {
	t.Helper()
	if x, e := syntax.ParseExpr(s); e != want || !reflect.DeepEqual(x, syntax.Expr{}) {
		t.Errorf("ParseExpr(%.60q) answers %s, %v, not %v", s, tree(x), e, want)
	}
}

func v(name string) syntax.Expr { return syntax.Expr{Kind: api.EVar, Name: name} }

func con(name string) syntax.Expr { return syntax.Expr{Kind: api.ECon, Name: name} }

func lam(name string, body syntax.Expr) syntax.Expr {
	return syntax.Expr{Kind: api.ELam, Name: name, Kids: []syntax.Expr{body}}
}

func app(f syntax.Expr, args ...syntax.Expr) syntax.Expr {
	for _, a := range args {
		f = syntax.Expr{Kind: api.EApp, Kids: []syntax.Expr{f, a}}
	}
	return f
}

func let(name string, x, in syntax.Expr) syntax.Expr {
	return syntax.Expr{Kind: api.ELet, Name: name, Kids: []syntax.Expr{x, in}}
}

func told(name string, t types.Type, x, in syntax.Expr) syntax.Expr {
	return syntax.Expr{Kind: api.ELet, Name: name, Told: true, T: t, Kids: []syntax.Expr{x, in}}
}

func choice(x syntax.Expr, alts ...syntax.Alt) syntax.Expr {
	return syntax.Expr{Kind: api.ECase, Kids: []syntax.Expr{x}, Alts: alts}
}

func alt(body syntax.Expr, con string, vars ...string) syntax.Alt {
	return syntax.Alt{Con: con, Vars: vars, Body: body}
}

func ann(x syntax.Expr, t types.Type) syntax.Expr {
	return syntax.Expr{Kind: api.EAnn, T: t, Kids: []syntax.Expr{x}}
}

// H1, H2: the chapter's examples, and some of the whole document's.
func TestExamples(t *testing.T) {
	for s, want := range map[string]string{
		`data  N{Z:N;S :N->N};two=S (S Z)`:                               `data N {Z : N; S : N -> N}; two = S (S Z)`,
		`f:N->N; f=\x->case (x) of{Z->x;S y->(f y:N)}`:                   `f : N -> N; f = \x -> case x of {Z -> x; S y -> (f y : N)}`,
		`k = let x : forall a. a = y in (let z = x in z) x`:              `k = let x : forall a. a = y in (let z = x in z) x`,
		`data N {Z : N}; f = \x -> x; n = f Z`:                           `data N {Z : N}; f = \x -> x; n = f Z`,
		`ev:forall a.E a->a;data E a{N:Int->E Int;If:E B->(E a->(E a))}`: `ev : forall a. E a -> a; data E a {N : Int -> E Int; If : E B -> E a -> E a}`,
		"# all\nf = \\x -> x x;# of f\n n\t=(\ncase Z of{S n->n})#":      `f = \x -> x x; n = case Z of {S n -> n}`,
	} {
		if got := syntax.Print(parsed(t, s)); got != want {
			t.Errorf("%q is printed %q, not %q", s, got, want)
		}
		if got := syntax.Print(parsed(t, want)); got != want {
			t.Errorf("%q is printed %q", want, got)
		}
	}
	isRefused(t, `g = (\x -> x) (h (i j)) let`, api.ErrSyntax)
}

// H1: each text is read as this expression, exactly.
func TestExpressions(t *testing.T) {
	x, y, f, z, k := v("x"), v("y"), v("f"), con("Z"), con("K")
	for s, want := range map[string]syntax.Expr{
		"x":                                 x,
		"Z":                                 z,
		"((x))":                             x,
		"f x":                               app(f, x),
		"f x y":                             app(f, x, y),
		"(f x) y":                           app(f, x, y),
		"f (x y)":                           app(f, app(x, y)),
		"K Z x(f)K":                         app(k, z, x, f, k),
		`\x -> x`:                           lam("x", x),
		`\x->\y->x y`:                       lam("x", lam("y", app(x, y))),
		`\x -> (\x -> x) x`:                 lam("x", app(lam("x", x), x)),
		`(\x -> f) (\y -> x) y`:             app(lam("x", f), lam("y", x), y),
		"let x = y in z":                    let("x", y, v("z")),
		"let x = let y = Z in y in x y":     let("x", let("y", z, y), app(x, y)),
		"let x = Z in let y = x in f":       let("x", z, let("y", x, f)),
		"let x : N = Z in x":                told("x", typ(t, "N"), z, x),
		"let x:forall a.a->?3=y in(x)x":     told("x", typ(t, "forall a. a -> ?3"), y, app(x, x)),
		"case x of {}":                      choice(x),
		"case x of {Z -> y}":                choice(x, alt(y, "Z")),
		"case f x of{Z->y;S n m->f n;Z->Z}": choice(app(f, x), alt(y, "Z"), alt(app(f, v("n")), "S", "n", "m"), alt(z, "Z")),
		"case case x of {} of {K x x -> case y of {}; K -> x}": choice(choice(x), alt(choice(y), "K", "x", "x"), alt(x, "K")),
		"(x : N)":                              ann(x, typ(t, "N")),
		"((x : N) : T (U b) -> N)":             ann(ann(x, typ(t, "N")), typ(t, "T (U b) -> N")),
		`(\x -> x : forall a. a)`:              ann(lam("x", x), typ(t, "forall a. a")),
		"f (f x : N) (y) (let x = y in x : N)": app(f, ann(app(f, x), typ(t, "N")), y, ann(let("x", y, x), typ(t, "N"))),
		"(x : N) (y : ?0)":                     app(ann(x, typ(t, "N")), ann(y, typ(t, "?0"))),
		"(case x of {Z -> y} : N)":             ann(choice(x, alt(y, "Z")), typ(t, "N")),
		"(case x of {Z -> y}) y":               app(choice(x, alt(y, "Z")), y),
		"dat lets In Of forAll":                app(v("dat"), v("lets"), con("In"), con("Of"), v("forAll")),
	} {
		if got, e := syntax.ParseExpr(s); e != api.OK || !reflect.DeepEqual(got, want) {
			t.Errorf("ParseExpr(%q) answers %s, %v, not %s", s, tree(got), e, tree(want))
		}
		if got, e := syntax.Parse("f = " + s); e != api.OK || !reflect.DeepEqual(got, []syntax.Decl{{Kind: api.DeclBind, Name: "f", E: want}}) {
			t.Errorf("Parse of a binding to %q answers %s, %v", s, trees(got), e)
		}
	}
}

// H1: each text is read as this program, exactly.
func TestPrograms(t *testing.T) {
	n := typ(t, "N")
	data := func(name string, params []string, cons ...syntax.Con) syntax.Decl {
		return syntax.Decl{Kind: api.DeclData, Name: name, Params: params, Cons: cons}
	}
	sig := syntax.Decl{Kind: api.DeclSig, Name: "f", T: typ(t, "N -> N")}
	bind := syntax.Decl{Kind: api.DeclBind, Name: "f", E: lam("x", v("x"))}
	for s, want := range map[string][]syntax.Decl{
		"":                       nil,
		" \n\t # nothing":        nil,
		"data N {}":              {data("N", nil)},
		"data N{Z:N}":            {data("N", nil, syntax.Con{Name: "Z", T: n})},
		"data P a b a {}":        {data("P", []string{"a", "b", "a"})},
		"f : N -> N":             {sig},
		`f = \x -> x`:            {bind},
		`f=\x->x;f:N->N;f=\x->x`: {bind, sig, bind},
		"data E a {N : N -> E N; Z : N; N : forall a. ?1 -> b}; f : N -> N; data N {}": {
			data("E", []string{"a"}, syntax.Con{Name: "N", T: typ(t, "N -> E N")}, syntax.Con{Name: "Z", T: n}, syntax.Con{Name: "N", T: typ(t, "forall a. ?1 -> b")}),
			sig,
			data("N", nil),
		},
	} {
		if got, e := syntax.Parse(s); e != api.OK || !reflect.DeepEqual(got, want) {
			t.Errorf("Parse(%q) answers %s, %v, not %s", s, trees(got), e, trees(want))
		}
	}
}

// H1: what stands between tokens does not matter.
func TestBetweenTokens(t *testing.T) {
	want := parsed(t, `data N a {Z : N a}; f : N a; f = \x -> case x of {Z y -> (x y : N)}`)
	for _, s := range []string{
		"data N a{Z:N a};f:N a;f=\\x->case x of{Z y->(x y:N)}",
		"\n data\tN # {\n a { Z : N a } ; f : N a ; f = \\ x -> case x of { Z y -> ( x y : N ) } # ;",
		"data N a {Z : (N (a))}; f : (N a); f = (\\x -> (case (x) of {Z y -> (((x) (y)) : (N))}))",
	} {
		if l, e := syntax.Parse(s); e != api.OK || !reflect.DeepEqual(l, want) {
			t.Errorf("Parse(%q) answers %s, %v", s, trees(l), e)
		}
	}
}

// H1: texts that are no program.
func TestNoProgram(t *testing.T) {
	for _, s := range []string{
		";", "f", "f =", "f :", "= x", ": N", "f = x;", ";f = x", "f = x;;f = x", "f = x f = x", "f = x, g = x", "f x = x", "F = x", "F : N", "?1 = x", "1 = x", "let = x", "(f) = x", "(f = x)", "f = g = x",
		"f : N : N", "f : N = x", "f : x y", "f : ", "f : forall a", "f : N;", "x", `\x -> x`, "f = x : N",
		"data", "data N", "data {}", "data n {}", "data N {", "data N }", "data N {Z}", "data N {Z :}", "data N {: N}", "data N {z : N}", "data N {Z : N;}", "data N {;Z : N}", "data N {Z : N;; S : N}", "data N {Z : N, S : N}",
		"data N {Z = N}", "data N A {}", "data N (a) {}", "data N ?1 {}", "data N {} x", "data N {} {}", "data N = {}", "data N : N", "data N {Z : N} f = x", "data N {Z x : N}", "data N a, b {}", "data data {}", "data N {Z : N S : N}",
		"f = case x of {Z -> x}; }", "data N {Z : N}}", "f = x )", "f = (x",
	} {
		isRefused(t, s, api.ErrSyntax)
	}
}

// H1: texts that are no expression.
func TestNoExpression(t *testing.T) {
	for _, s := range []string{
		"", " # x", ";", "x;", "x y )", "(x", "()", "( )", "(x : )", "(: N)", "x : N", "(x : N : N)", "(x : y z)", "(x ; y)", "?1", "x ?1", "1", "f 1", "x -> x", "x = x", "x, y", "[x]", "f = x", "data N {}", "f : N",
		`\`, `\x`, `\x ->`, `\x y -> x`, `\ -> x`, `\X -> x`, `\(x) -> x`, `\x . x`, `\x = x`, `\let -> x`, `f \x -> x`, `\x -> x : N`, `x \`, `\x : N -> x`, `\?1 -> x`,
		"let", "let x", "let x =", "let x = y", "let x = y in", "let = y in x", "let X = y in x", "let x y = y in x", "let x : N in x", "let x : = y in x", "let x : N y in x", "let x = y; z = y in x", "let in = y in x", "f let x = y in x", "let x = y in x : N", "in x", "let x = in x", "let x : N = = y in x", "let (x) = y in x",
		"case", "case x", "case x of", "case of {}", "case x {}", "case x of {", "case x of }", "case x of {Z}", "case x of {Z ->}", "case x of {-> x}", "case x of {z -> x}", "case x of {Z -> x;}", "case x of {;Z -> x}", "case x of {Z -> x;; Z -> x}", "case x of {Z -> x, Z -> x}",
		"case x of {Z X -> x}", "case x of {Z (x) -> x}", "case x of {Z = x}", "case x of {} x", "f case x of {}", "case x of {} : N", "case x of Z -> x", "case x of (Z -> x)", "case x of {Z -> x} of {}", "of", "case x of {?1 -> x}", "case x of {Z : N -> x}", "case x of {Z -> x Z -> x}",
		"forall a. a", "forall", "x . y", "x ~ y", "f @ x", "x |> y", "<x>", "!x", "{x}", "f {x}",
	} {
		isNoExpr(t, s, api.ErrSyntax)
	}
}

// lambdas is the text of an expression so deep, of variables that are bound.
func lambdas(depth int) string {
	return strings.Repeat(`\x -> `, depth-1) + "x"
}

// H1: chapter 1's errors come first, then what is no program, then what is too deep.
func TestOrderOfErrors(t *testing.T) {
	for s, want := range map[string]api.Errno{
		"a - b":                   api.ErrLex,
		"$":                       api.ErrLex,
		"x 01":                    api.ErrLex,
		"x : ?x":                  api.ErrLex,
		"abcdefghijklmnopq":       api.ErrLex,
		"; ; $":                   api.ErrLex,
		"x\r":                     api.ErrLex,
		lambdas(60) + " $":        api.ErrLex,
		strings.Repeat("$", 3997): api.ErrLong,
		strings.Repeat(";", 3997): api.ErrLong,
		lambdas(60) + " x :":      api.ErrSyntax,
		"(" + lambdas(60):         api.ErrSyntax,
		"(x : " + deepType(60):    api.ErrSyntax,
	} {
		isRefused(t, "f = "+s, want)
		isNoExpr(t, s+"    ", want)
	}
	isRefused(t, "f = "+lambdas(60)+"; f", api.ErrSyntax)
	isRefused(t, "f : "+deepType(60)+"; f :", api.ErrSyntax)
	for n, want := range map[int]api.Errno{3996: api.OK, 3997: api.ErrLong} {
		if _, e := syntax.Parse("f = " + strings.Repeat(" ", n-1) + "x"); e != want {
			t.Errorf("%d: %v", n, e)
		}
		if _, e := syntax.ParseExpr(strings.Repeat(" ", n+3) + "x"); e != want {
			t.Errorf("%d: %v", n, e)
		}
	}
}

// deepType is the text of a type so deep.
func deepType(depth int) string {
	return strings.Repeat("T (", depth-1) + "a" + strings.Repeat(")", depth-1)
}

// ways are texts of expressions that are one deeper than what stands in the place of $.
var ways = []string{
	`\x -> $`, "f ($)", "($) x", "let x = $ in y", "let x = y in $", "let x : N = $ in y", "let x : N = y in $", "case $ of {}", "case $ of {Z -> x}", "case x of {Z -> $}", "case x of {Z -> x; S n -> $; K -> y}", "($ : N)", "case x of {Z -> ($); Z -> x}",
}

// H1: how deep expressions may be, and how deep they are: wherever the deepest one stands.
func TestTooDeep(t *testing.T) {
	for _, way := range ways {
		s := "x"
		for depth := 1; depth <= 53; depth++ {
			text := strings.Replace(way, "$", lambdas(depth), 1)
			isWithin(t, text, depth+1)
			isWithin(t, s, depth)
			s = strings.Replace(way, "$", s, 1)
		}
	}
	isWithin(t, "f"+strings.Repeat(" x", 49), 50)
	isWithin(t, "f"+strings.Repeat(" x", 50), 51)
	isWithin(t, "f (f"+strings.Repeat(" x", 49)+")", 51)
	isWithin(t, strings.Repeat("(", 1900)+"x"+strings.Repeat(")", 1900), 1)
	isWithin(t, "case x of {"+strings.Repeat("Z -> x;", 400)+"Z -> x}", 2)
}

// isWithin asks whether the expression of a text is so deep, and refused if that is too deep, alone and in a program.
func isWithin(t *testing.T, s string, depth int) {
	t.Helper()
	if depth > api.MaxDepth {
		isNoExpr(t, s, api.ErrDeep)
		isRefused(t, "f = "+s, api.ErrDeep)
		isRefused(t, "f = x; g = "+s+"; data N {}", api.ErrDeep)
		return
	}
	if x := expr(t, s); x.Depth() != depth {
		t.Errorf("%.60q is %d deep, not %d", s, x.Depth(), depth)
	}
	if l := parsed(t, "f = x; g = "+s+"; data N {}"); l[1].E.Depth() != depth {
		t.Errorf("%.60q is %d deep, not %d", s, l[1].E.Depth(), depth)
	}
}

// H1: how deep types may be: wherever they stand.
func TestTooDeepTypes(t *testing.T) {
	inExpr := []string{"(x : $)", "let x : $ = y in z"}
	for _, way := range ways {
		inExpr = append(inExpr, strings.Replace(way, "$", "(x : $)", 1), strings.Replace(way, "$", "let x : $ = y in z", 1))
	}
	inExpr = append(inExpr, "("+strings.Repeat(`\x -> `, 47)+"(x : N) : $)", strings.Repeat(`\x -> `, 48)+"(x : $)")
	programs := []string{"f : $", "f = x; f : $; data N {}", "data N {Z : $}", "data N {Z : N; S : $; Z : N}", "data N {}; data N {Z : $}"}
	for _, s := range inExpr {
		programs = append(programs, "f = "+s, "f = x; f = "+s+"; f : N")
		if x := expr(t, strings.Replace(s, "$", deepType(50), 1)); x.Depth() > api.MaxDepth {
			t.Errorf("%q: %d", s, x.Depth())
		}
		isNoExpr(t, strings.Replace(s, "$", deepType(51), 1), api.ErrDeep)
	}
	for _, s := range programs {
		parsed(t, strings.Replace(s, "$", deepType(50), 1))
		isRefused(t, strings.Replace(s, "$", deepType(51), 1), api.ErrDeep)
	}
}

// H1: how many expressions are in one, and how deep it is.
func TestSizeAndDepth(t *testing.T) {
	for s, want := range map[string][2]int{
		"x":                            {1, 1},
		"Z":                            {1, 1},
		"((x))":                        {1, 1},
		"f x":                          {3, 2},
		"f x y":                        {5, 3},
		"f (x y)":                      {5, 3},
		"f (x y) z":                    {7, 4},
		"f x (y z)":                    {7, 3},
		`\x -> x`:                      {2, 2},
		`\x -> \y -> x`:                {3, 3},
		"(x : T (U (V w)))":            {2, 2},
		"let x = y in z":               {3, 2},
		"let x = y in f z":             {5, 3},
		"let x : T (U V) = f y in z":   {5, 3},
		"case x of {}":                 {2, 2},
		"case f x of {}":               {4, 3},
		"case x of {Z -> y}":           {3, 2},
		"case x of {Z -> f y; S -> y}": {6, 3},
		"case x of {S n m k -> y; Z -> case x of {Z -> (y : N)}}": {7, 4},
	} {
		if x := expr(t, s); x.Size() != want[0] || x.Depth() != want[1] {
			t.Errorf("%q: %d, %d, not %v", s, x.Size(), x.Depth(), want)
		}
	}
}

// H2: how expressions are written, and where parentheses stand.
func TestPrintExpressions(t *testing.T) {
	for s, want := range map[string]string{
		"(x)":                                  "x",
		"((f) (x)) (K)":                        "f x K",
		"f (g x) ((h) y)":                      "f (g x) (h y)",
		"f((g)(h(i)(j k)))":                    "f (g (h i (j k)))",
		`\x->(\y->(x))`:                        `\x -> \y -> x`,
		`(\x->x)(\y->y)`:                       `(\x -> x) (\y -> y)`,
		`f(\x->x)y`:                            `f (\x -> x) y`,
		`\x->(f x)`:                            `\x -> f x`,
		"let x=(let y=z in y)in(let y=x in y)": "let x = let y = z in y in let y = x in y",
		"let x:(N)=(f y)in(f x)":               "let x : N = f y in f x",
		"let x:forall a.forall b.(a->b)->(a->b)=y in x": "let x : forall a b. (a -> b) -> a -> b = y in x",
		"(let x=y in x)y":       "(let x = y in x) y",
		"f(let x=y in x)":       "f (let x = y in x)",
		"case(case x of{})of{}": "case case x of {} of {}",
		"case(\\x->x)of{Z->(\\y->y);S n->(case n of{})}": `case \x -> x of {Z -> \y -> y; S n -> case n of {}}`,
		"case(f x)of{P x y z->(f x)}":                    "case f x of {P x y z -> f x}",
		"(case x of{Z->x})y":                             "(case x of {Z -> x}) y",
		"f(case x of{Z->x})":                             "f (case x of {Z -> x})",
		"(x:N)":                                          "(x : N)",
		"((x:N))":                                        "(x : N)",
		"((x:N):M)":                                      "((x : N) : M)",
		"(x:N)(y:T(U a))":                                "(x : N) (y : T (U a))",
		"f(f x:N)":                                       "f (f x : N)",
		`(\x->(x:N):N->N)`:                               `(\x -> (x : N) : N -> N)`,
		"(let x=y in x:N)":                               "(let x = y in x : N)",
		"(case x of{}:N)":                                "(case x of {} : N)",
		"((f x):N)":                                      "(f x : N)",
		`\x->(x:N)`:                                      `\x -> (x : N)`,
		"let x=(y:N)in(x:N)":                             "let x = (y : N) in (x : N)",
		"case(x:N)of{Z->(x:N)}":                          "case (x : N) of {Z -> (x : N)}",
		"(x:?0->?999999)":                                "(x : ?0 -> ?999999)",
	} {
		if got := expr(t, s).Print(); got != want {
			t.Errorf("%q is printed %q, not %q", s, got, want)
		}
		if got := syntax.Print(parsed(t, "f="+s)); got != "f = "+want {
			t.Errorf("a binding to %q is printed %q, not %q", s, got, want)
		}
	}
}

// H2: how declarations are written.
func TestPrintPrograms(t *testing.T) {
	for s, want := range map[string]string{
		"":                                       "",
		"#":                                      "",
		"data N{}":                               "data N {}",
		"data N a{}":                             "data N a {}",
		"data N{Z:N}":                            "data N {Z : N}",
		"data T a b{K:(t);L:(a->(b))}":           "data T a b {K : t; L : a -> b}",
		"data T a{K:forall b.(forall c.c)->T b}": "data T a {K : forall b. (forall c. c) -> T b}",
		"f:t":                                    "f : t",
		"f:forall a.forall b.T(a)b":              "f : forall a b. T a b",
		"f=(e)":                                  "f = e",
		"f=(e);g:t;data N{};f=e":                 "f = e; g : t; data N {}; f = e",
	} {
		if got := syntax.Print(parsed(t, s)); got != want {
			t.Errorf("%q is printed %q, not %q", s, got, want)
		}
	}
}

// R4: no pieces are no pieces, whether there is a list or not.
func TestNilAndEmpty(t *testing.T) {
	kids, alts, vars := []syntax.Expr{}, []syntax.Alt{}, []string{}
	x := syntax.Expr{Kind: api.ECase, Kids: []syntax.Expr{{Kind: api.EVar, Name: "x", Kids: kids, Alts: alts}}, Alts: []syntax.Alt{{Con: "Z", Vars: vars, Body: syntax.Expr{Kind: api.ECon, Name: "K", Kids: kids, Alts: alts}}}}
	if x.Print() != "case x of {Z -> K}" || x.Size() != 3 || x.Depth() != 2 {
		t.Errorf("%q, %d, %d", x.Print(), x.Size(), x.Depth())
	}
	x.Alts = alts
	l := []syntax.Decl{{Kind: api.DeclData, Name: "N", Params: vars, Cons: []syntax.Con{}}, {Kind: api.DeclBind, Name: "f", Params: vars, Cons: []syntax.Con{}, E: x}}
	if got := syntax.Print(l); got != "data N {}; f = case x of {}" {
		t.Errorf("%q", got)
	}
	if syntax.Print(nil) != "" || syntax.Print([]syntax.Decl{}) != "" {
		t.Error("there is something")
	}
}

// R5, R6: what is handed in stays as it was, two calls answer alike, and no list of an answer has another one's place to grow.
func TestNothingChanges(t *testing.T) {
	const s = `data P a b {K : a -> P a (T b c); L : P b a}; f : N -> M; f = \x -> case f x y (z w) of {Z a b c -> let x : T a b = y in x; S n -> (n m : N)}; g = x`
	want := trees(parsed(t, s))
	for range 2 {
		l := parsed(t, s)
		grown(l)
		if got := trees(l); got != want {
			t.Errorf("%s, not %s", got, want)
		}
		if text := syntax.Print(l); text != s || trees(l) != want {
			t.Errorf("%q, and then %s", text, trees(l))
		}
	}
}

// grown lays something behind each list.
func grown(l []syntax.Decl) {
	_ = append(l, syntax.Decl{Kind: api.DeclSig, Name: "grown"})
	for _, d := range l {
		_ = append(d.Params, "grown")
		_ = append(d.Cons, syntax.Con{Name: "Grown"})
		grownType(d.T)
		grownExpr(d.E)
		for _, c := range d.Cons {
			grownType(c.T)
		}
	}
}

func grownExpr(e syntax.Expr) {
	_ = append(e.Kids, v("grown"))
	_ = append(e.Alts, syntax.Alt{Con: "Grown"})
	grownType(e.T)
	for _, k := range e.Kids {
		grownExpr(k)
	}
	for _, a := range e.Alts {
		_ = append(a.Vars, "grown")
		grownExpr(a.Body)
	}
}

func grownType(x types.Type) {
	_ = append(x.Args, types.Type{Kind: api.Var, Name: "grown"})
	for _, a := range x.Args {
		grownType(a)
	}
}

// R1: of trees that no text writes nothing is promised but that each call ends, and does not panic.
func TestNoTrees(t *testing.T) {
	x := v("x")
	none := types.Type{Kind: api.Fun}
	odd := []syntax.Expr{{}, {Kind: -1}, {Kind: 99, Name: "x", Kids: []syntax.Expr{x}}, {Kind: api.EVar, Kids: []syntax.Expr{x}, Alts: []syntax.Alt{{}}}, {Kind: api.EAnn, T: none}, {Kind: api.ELet, Told: true, T: none}, {Kind: api.ECase, Alts: []syntax.Alt{{}, {Vars: []string{""}}}}}
	for kind := api.EVar; kind <= api.EAnn; kind++ {
		odd = append(odd, syntax.Expr{Kind: kind}, syntax.Expr{Kind: kind, Kids: []syntax.Expr{{}}}, syntax.Expr{Kind: kind, Kids: []syntax.Expr{x, {}, x}})
	}
	for _, x := range odd {
		odd = append(odd, lam("", x), app(x, x), let("x", x, x), choice(x, alt(x, "")), ann(x, types.Type{}))
	}
	for _, x := range odd {
		x.Print()
		x.Size()
		x.Depth()
		for kind := -1; kind <= 4; kind++ {
			syntax.Print([]syntax.Decl{{}, {Kind: kind, E: x, T: none, Cons: []syntax.Con{{T: none}}}, {Kind: kind}})
		}
	}
}

// H1, H2: each call ends with expressions of 2^16 within one another, in good time.
func TestDeepEnds(t *testing.T) {
	const deep = 1 << 16
	x, n := v("x"), types.Type{Kind: api.Con, Name: "N"}
	for way, deeper := range map[string]func(e syntax.Expr) syntax.Expr{
		"lam":   func(e syntax.Expr) syntax.Expr { return lam("x", e) },
		"left":  func(e syntax.Expr) syntax.Expr { return app(e, x) },
		"right": func(e syntax.Expr) syntax.Expr { return app(x, e) },
		"let":   func(e syntax.Expr) syntax.Expr { return let("x", e, x) },
		"in":    func(e syntax.Expr) syntax.Expr { return told("x", n, x, e) },
		"case":  func(e syntax.Expr) syntax.Expr { return choice(e, alt(x, "Z")) },
		"alt":   func(e syntax.Expr) syntax.Expr { return choice(x, alt(x, "Z"), alt(e, "S", "x")) },
		"ann":   func(e syntax.Expr) syntax.Expr { return ann(e, n) },
	} {
		e := x
		for range deep - 1 {
			e = deeper(e)
		}
		if e.Depth() != deep || e.Size() < deep || e.Size() > 3*deep {
			t.Errorf("%s: %d, %d", way, e.Depth(), e.Size())
		}
		s := e.Print()
		if len(s) < deep || "f = "+s != syntax.Print([]syntax.Decl{{Kind: api.DeclBind, Name: "f", E: e}}) {
			t.Errorf("%s: %.80q", way, s)
		}
	}
}

// H1: texts as long as one may be are read, or not, in good time.
func TestLongTexts(t *testing.T) {
	for _, s := range []string{"(", `\x->`, "let x=", "case ", "x(", "case x of{Z->", "let x=y in ", "(x:", "(x:(", "data N{Z:", "f:", "f=x;", "data N a "} {
		isRefused(t, strings.Repeat(s, api.MaxInput/len(s)), api.ErrSyntax)
		isRefused(t, "f="+strings.Repeat(s, (api.MaxInput-2)/len(s)), api.ErrSyntax)
	}
	if l := parsed(t, "data N"+strings.Repeat(" a", 1990)+"{}"); len(l[0].Params) != 1990 {
		t.Error(len(l[0].Params))
	}
	if l := parsed(t, "f=x"+strings.Repeat(";f=x", 900)); len(l) != 901 {
		t.Error(len(l))
	}
	isRefused(t, "f=x"+strings.Repeat(" x", 1990), api.ErrDeep)
	isRefused(t, "f="+strings.Repeat(`\x->`, 990)+"x", api.ErrDeep)
}
