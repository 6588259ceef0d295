package scope_test

import (
	"reflect"
	"slices"
	"strings"
	"testing"

	"savant/api"
	"savant/scope"
	"savant/syntax"
	"savant/types"
)

// parsed is the program of a text that must be one.
func parsed(t *testing.T, s string) []syntax.Decl {
	t.Helper()
	l, e := syntax.Parse(s)
	if e != api.OK {
		t.Fatalf("Parse(%q): %v", s, e)
	}
	return l
}

// expr is the expression of a text that must be one.
func expr(t *testing.T, s string) syntax.Expr {
	t.Helper()
	x, e := syntax.ParseExpr(s)
	if e != api.OK {
		t.Fatalf("ParseExpr(%q): %v", s, e)
	}
	return x
}

func v(name string) syntax.Expr { return syntax.Expr{Kind: api.EVar, Name: name} }

func con(name string) syntax.Expr { return syntax.Expr{Kind: api.ECon, Name: name} }

func lam(name string, body syntax.Expr) syntax.Expr {
	return syntax.Expr{Kind: api.ELam, Name: name, Kids: []syntax.Expr{body}}
}

func app(f, x syntax.Expr) syntax.Expr {
	return syntax.Expr{Kind: api.EApp, Kids: []syntax.Expr{f, x}}
}

func let(name string, x, in syntax.Expr) syntax.Expr {
	return syntax.Expr{Kind: api.ELet, Name: name, Kids: []syntax.Expr{x, in}}
}

func told(name string, x, in syntax.Expr) syntax.Expr {
	return syntax.Expr{Kind: api.ELet, Name: name, Told: true, T: types.Type{Kind: api.Con, Name: "N"}, Kids: []syntax.Expr{x, in}}
}

func choice(x syntax.Expr, alts ...syntax.Alt) syntax.Expr {
	return syntax.Expr{Kind: api.ECase, Kids: []syntax.Expr{x}, Alts: alts}
}

func alt(body syntax.Expr, con string, vars ...string) syntax.Alt {
	return syntax.Alt{Con: con, Vars: vars, Body: body}
}

func ann(x syntax.Expr) syntax.Expr {
	return syntax.Expr{Kind: api.EAnn, T: types.Type{Kind: api.Con, Name: "N"}, Kids: []syntax.Expr{x}}
}

// names are what Free, Cons and Bound answer, as the chapter writes it.
func names(e syntax.Expr) string {
	return strings.Join([]string{strings.Join(scope.Free(e), ", "), strings.Join(scope.Cons(e), ", "), strings.Join(scope.Bound(e), ", ")}, "; ")
}

// isChecked asks Check of a text for this name and error.
func isChecked(t *testing.T, s, want string, wantError api.Errno) {
	t.Helper()
	if name, e := scope.Check(parsed(t, s)); name != want || e != wantError {
		t.Errorf("Check of %q answers %q, %v, not %q, %v", s, name, e, want, wantError)
	}
}

// I1, I2: the chapter's examples.
func TestExamples(t *testing.T) {
	if got := names(expr(t, `\x -> case y of {S z -> x z w; Z -> z}`)); got != "y, w, z; S, Z; x, z" {
		t.Error(got)
	}
	isChecked(t, "data N {Z : N}; f = Z; f = Z", "f", api.ErrTwice)
	isChecked(t, "f : N", "f", api.ErrAlone)
	isChecked(t, `f = \f -> f`, "f", api.ErrTwice)
	isChecked(t, "f = g", "g", api.ErrUnbound)
	isChecked(t, "f = K", "K", api.ErrUnbound)
	isChecked(t, "data P a a {}", "a", api.ErrTwice)
	isChecked(t, "data Any {}", "Any", api.ErrTwice)
	isChecked(t, "data N {}; f = case f of {K x x -> f}", "x", api.ErrTwice)
}

// I1: what is free, what constructors there are, what is bound: where each is, and in which order.
func TestNames(t *testing.T) {
	for s, want := range map[string]string{
		// Each sort of expression, and what it binds where.
		"x":                                     "x; ; ",
		"K":                                     "; K; ",
		`\x -> x`:                               "; ; x",
		`\x -> y`:                               "y; ; x",
		"f x":                                   "f, x; ; ",
		"f K":                                   "f; K; ",
		"let x = y in z":                        "y, z; ; x",
		"let x = x in x":                        "x; ; x",
		"let x = y in x":                        "y; ; x",
		"let x : N = x in x":                    "x; ; x",
		"let x : N = y in x z":                  "y, z; ; x",
		"case x of {}":                          "x; ; ",
		"case x of {Z -> y}":                    "x, y; Z; ",
		"case x of {S x -> x}":                  "x; S; x",
		"case x of {S y -> x y}":                "x; S; y",
		"case x of {P a b c -> c b a}":          "x; P; a, b, c",
		"case x of {S y -> y; K -> y}":          "x, y; S, K; y",
		"case x of {K -> y; S y -> y}":          "x, y; K, S; y",
		"case x of {S y -> Z; P z y -> y z}":    "x; S, Z, P; y, z",
		"(x : N)":                               "x; ; ",
		"(K : N)":                               "; K; ",
		`(\x -> x y : N)`:                       "y; ; x",
		"case case x of {Z -> y} of {K a -> b}": "x, y, b; Z, K; a",
		// What a name is bound in ends.
		`(\x -> x) x`:                              "x; ; x",
		`x (\x -> x)`:                              "x; ; x",
		`(\x -> y) x`:                              "y, x; ; x",
		`(\x -> x) y x`:                            "y, x; ; x",
		`\x -> (\x -> x) x`:                        "; ; x",
		`(\x -> (\x -> x) x) x`:                    "x; ; x",
		`\x -> \y -> x`:                            "; ; x, y",
		`\x -> (\y -> x y) y`:                      "y; ; x, y",
		"(let x = K in x) x":                       "x; K; x",
		"f (case z of {S x -> x}) x":               "f, z, x; S; x",
		"let x = (let y = a in y) in y":            "a, y; ; x, y",
		`let x = \x -> x in x`:                     "; ; x",
		`let x = (\y -> x y) in \x -> x y`:         "x, y; ; x, y",
		"case x of {P x x -> x; Z -> x}":           "x; P, Z; x",
		"case z of {P x x -> x; Z -> x}":           "z, x; P, Z; x",
		`case z of {S x -> (\x -> x) x} `:          "z; S; x",
		`(case z of {P x x -> x}) x`:               "z, x; P; x",
		`\x -> case x of {P x x -> x; S y -> x y}`: "; P, S; x, y",
		// Each once, where it is written first.
		"x x y x y":                            "x, y; ; ",
		"y (x y) z":                            "y, x, z; ; ",
		"K Z K Z S":                            "; K, Z, S; ",
		"c b a":                                "c, b, a; ; ",
		`\b -> \a -> \b -> \c -> K`:            "; K; b, a, c",
		`(\x -> x y) x z`:                      "y, x, z; ; x",
		"let b = (let a = c in a) in b d c":    "c, d; ; b, a",
		"let b = case K of {L a -> M} in L":    "; K, L, M; b, a",
		"case S of {Z -> K; S x -> L; K -> Z}": "; S, Z, K, L; x",
		`case \a -> K of {Z c b -> \d -> c}`:   "; K, Z; a, c, b, d",
		`case q of {Z c b -> case p of {L b d -> z}; K e c -> y}`: "q, p, z, y; Z, L, K; c, b, d, e",
		// Types have no names that count.
		"(x : forall x. x -> y -> K)":         "x; ; ",
		"let x : forall y. y -> K z = K in x": "; K; x",
		// Names are held against one another by their bytes.
		"x xx x1 xX":     "x, xx, x1, xX; ; ",
		`\xx -> x xx x1`: "x, x1; ; xx",
		"K Kk KK K1":     "; K, Kk, KK, K1; ",
	} {
		if got := names(expr(t, s)); got != want {
			t.Errorf("%q: %q, not %q", s, got, want)
		}
	}
}

// I2: programs with which nothing is wrong.
func TestPasses(t *testing.T) {
	for _, s := range []string{
		"",
		"data N {}",
		"data N a b {}",
		"data N {N : N}",
		"data N {Z : N; S : N -> N}; f = Z",
		"data N {Any : N}; f = Any",
		"data N {Z : Any}; data Anyy {}; data A {}",
		"data P a b {}; data Q a b {}",
		"data N n {}; n = n",
		"data N x {Z : N x}; f = \\x -> Z",
		"f = f",
		"f = g; g = f",
		"f : N; f = f",
		"f = f; f : N",
		"f : N; g : N; g = f; f = g",
		"f : forall f. f -> g -> ?1 -> N; f = f",
		`f = \x -> x; g = \x -> f x`,
		`f = \x -> \x -> x`,
		`f = (\x -> x) (\x -> x)`,
		"f = let x = f in let x = x in x",
		"f = case f of {}",
		"f = case f of {Z x -> x; Z x -> x}; data N {Z : M}",
		"f = case f of {Z x -> case x of {Z x -> x}}; data N {Z : M}",
		"f = case f of {Z x y z xx -> \\x -> x}; data N {Z : M}",
		"f = (f : K x -> L); data N {Z : K x}",
		"f = let x : K y = f in x",
		"f = Z; data N {S : N -> N; Z : N}",
		"data N {Z : N}; f = S; data M {S : N}",
	} {
		isChecked(t, s, "", api.OK)
	}
}

// I2, ErrTwice: names that declarations have twice.
func TestDeclaredTwice(t *testing.T) {
	for s, want := range map[string]string{
		"data N {}; data N {}":                                  "N",
		"data N {}; data M {}; data N {}":                       "N",
		"data N a {}; f = f; data N a b {}":                     "N",
		"data Any a {K : Any}":                                  "Any",
		"data N {}; data Any {}":                                "Any",
		"data Any {}; data Any {}":                              "Any",
		"data N a b a {}":                                       "a",
		"data N a b b a {}":                                     "b",
		"data N a b c c b a {}":                                 "c",
		"data N a a a {}":                                       "a",
		"data N a {}; data M a b b {}":                          "b",
		"data N {Z : N; Z : N}":                                 "Z",
		"data N {Z : N; S : N -> N; Z : N -> N}":                "Z",
		"data N {A : N; B : N; C : N; B : N; A : N}":            "B",
		"data N {Z : N}; data M {Z : M}":                        "Z",
		"data N {Z : N}; data L {S : L}; data M {K : M; Z : M}": "Z",
		"data N {Z : N; S : N}; data M {S : M; Z : M}":          "S",
		"data N {N : N}; data M {N : M}":                        "N",
		"f : N; f : N; f = f":                                   "f",
		"f : N; f = f; f : M":                                   "f",
		"f : N; g : N; f : N; g = f; f = g":                     "f",
		"f = f; f = f":                                          "f",
		"f = f; f : N; g = f; f = g":                            "f",
		"g = g; f = f; f = f; g = g":                            "f",
		`f = let x = f in f; data N {}; f = \y -> y`:            "f",
		"data K {K : K}; k : K; k = k; k : K":                   "k",
		"data A {Any : A}; data B {Any : B}":                    "Any",
	} {
		isChecked(t, s, want, api.ErrTwice)
	}
}

// I2: what is told first where several things are wrong.
func TestOrderOfDeclared(t *testing.T) {
	for s, want := range map[string]string{
		// Of one declaration of data: its name, then its params, then its constructors.
		"data N {}; data N a a {Z : N; Z : N}":         "N",
		"data Any a a {Z : N; Z : N}":                  "Any",
		"data N a a {Z : N; Z : N}":                    "a",
		"data M {Z : M}; data N a b b {Z : N}":         "b",
		"data M {Z : M}; data N {S : N; Z : N; S : N}": "Z",
		// The declarations in order, whatever they are of.
		"data N {}; data N {}; f = f; f = f":          "N",
		"f = f; f = f; data N {}; data N {}":          "f",
		"f = f; data N {}; f = f; data N {}":          "f",
		"f = f; data N {}; data N {}; f = f":          "N",
		"f : N; f : N; data N a a {}":                 "f",
		"data N a a {}; f : N; f : N":                 "a",
		"g = g; f : N; f : N; g = g; f = f":           "f",
		"f : N; g = g; g = g; f : N; f = f":           "g",
		"data N {Z : N; Z : N}; data N {}":            "Z",
		"data N {}; data N {}; data M {Z : M; Z : M}": "N",
		"data M {Z : M; Z : M}; data N {}; data N {}": "Z",
	} {
		isChecked(t, s, want, api.ErrTwice)
	}
	// All of them ahead of signatures that stand alone, and of what bindings are.
	isChecked(t, "g : N; h = x; f = f; f = f", "f", api.ErrTwice)
	isChecked(t, `h = \h -> x K; g : N; data N a a {}`, "a", api.ErrTwice)
	isChecked(t, "h = h; g : N; f : N; data N {}; data N {}", "N", api.ErrTwice)
}

// I2, ErrAlone: signatures that no binding belongs to; the first one is told, ahead of all that is wrong in bindings.
func TestAlone(t *testing.T) {
	for s, want := range map[string]string{
		"f : N; g : N":                             "f",
		"g : N; f : N":                             "g",
		"f = f; g : N":                             "g",
		"g : N; f = f":                             "g",
		"f : N; g : N; f = f":                      "g",
		"f : N; f = f; g : N; h : N":               "g",
		"data N {Z : N}; z : N; x = Z":             "z",
		`h = \f -> f; f : N`:                       "f",
		`h = let f = h in f; f : N`:                "f",
		"f = \\f -> f; g : N":                      "g",
		"f = x; g : N":                             "g",
		"f = K; g : N":                             "g",
		"f = case f of {K x x -> f}; g : N; h : N": "g",
		"fF : N; ff = ff":                          "fF",
	} {
		isChecked(t, s, want, api.ErrAlone)
	}
}

// I2: names that bindings bind or use as they must not: ErrTwice.
func TestBoundTwice(t *testing.T) {
	for s, want := range map[string]string{
		// What a binding has.
		`f = \x -> \f -> x`:                                      "f",
		`f = \g -> g; g = f`:                                     "g",
		`g = f; f = \g -> g`:                                     "g",
		"f = let f = f in f":                                     "f",
		"f = let x = f in let f = x in f":                        "f",
		"f = let x = (let f = f in f) in x":                      "f",
		"f = let f : N = f in f":                                 "f",
		"f = case f of {K f -> f}":                               "f",
		"f = case f of {K x y f -> f}":                           "f",
		"f = case f of {K x -> x; L x f -> f}":                   "f",
		`f = case \f -> f of {}`:                                 "f",
		`f = (\f -> f : N)`:                                      "f",
		`f = f (f (\f -> f))`:                                    "f",
		`f = \h -> \g -> h; g = f; h = g`:                        "h",
		`f = let h = \g -> g in h; g = f; h = g`:                 "h",
		`f = case \g -> g of {K h -> f}; g = f; h = g`:           "g",
		`f = case f of {K h -> \g -> f; L g -> f}; g = f; h = g`: "h",
		// What stands twice in one alternative.
		"f = case f of {K x y x -> f}":                                  "x",
		"f = case f of {K x y y x -> f}":                                "y",
		"f = case f of {K x x y y -> f}":                                "x",
		"f = case f of {K x -> f; L y y -> f; M z z -> f}":              "y",
		"f = case f of {K x -> f; L y -> case x of {K z z -> z}}":       "z",
		"f = case f of {K x x -> case x of {K z z -> z}}":               "x",
		"f = case f of {K x -> case x of {K z z -> z}; K y y -> f}":     "z",
		"f = case case f of {K z z -> z} of {K x x -> f}":               "z",
		`f = \x -> case x of {K x y -> \y -> case y of {L z x z -> x}}`: "z",
		"f = let x = case f of {K y y -> y} in case f of {K x x -> x}":  "y",
		"f = (case f of {K y y -> y} : N)":                              "y",
		"f = f (case f of {K y y -> y}) (case f of {K x x -> x})":       "y",
	} {
		isChecked(t, s+"; data D {K : D; L : D; M : D}", want, api.ErrTwice)
	}
}

// I2, ErrUnbound: names that nothing has.
func TestUnbound(t *testing.T) {
	for s, want := range map[string]string{
		"f = x":                            "x",
		"f = f x y":                        "x",
		`f = \x -> y`:                      "y",
		`f = (\x -> x) x`:                  "x",
		"f = let x = x in x":               "x",
		"f = let x : N = y in x":           "y",
		"f = case f of {K x -> x; L -> x}": "x",
		"f = case x of {K x -> x}":         "x",
		"f = (x : N)":                      "x",
		"f = g; g = h":                     "h",
		"f : forall x. x; f = x":           "x",
		"data X x {}; f = x":               "x",
		"f = M":                            "M",
		"f = f M N":                        "M",
		"f = case f of {M -> f}":           "M",
		"f = case f of {K -> M; N -> f}":   "M",
		"f = case M of {N -> f}":           "M",
		"f = case f of {N -> M}":           "N",
		"f = (M : N)":                      "M",
		"f = Any":                          "Any",
		"data N a {Z : M}; f = N":          "N",
		"data N a {Z : M}; f = M":          "M",
		"f = F":                            "F",
		"f = k":                            "k",
		"f = K k":                          "k",
	} {
		isChecked(t, s+"; data D {K : D; L : D}", want, api.ErrUnbound)
	}
}

// I2: of each binding, in order: what it binds, what an alternative binds twice, what is free in it, and its constructors.
func TestOrderInBindings(t *testing.T) {
	for _, c := range []struct {
		s, want string
		e       api.Errno
	}{
		{`f = M x (case f of {K y y -> \f -> f})`, "f", api.ErrTwice},
		{`f = M x (case f of {K y y -> f})`, "y", api.ErrTwice},
		{`f = case x of {M y y f -> f}`, "f", api.ErrTwice},
		{`f = case x of {M y y -> f}`, "y", api.ErrTwice},
		{`f = case f of {K y y -> case f of {K f -> f}}`, "f", api.ErrTwice},
		{`f = M x`, "x", api.ErrUnbound},
		{`f = M (N x) y`, "x", api.ErrUnbound},
		{`f = case M of {N z -> x}`, "x", api.ErrUnbound},
		{`f = case M of {N z -> z}`, "M", api.ErrUnbound},
		// One binding behind the other.
		{`f = M; g = x; h = \f -> f`, "M", api.ErrUnbound},
		{`g = x; f = M; h = \f -> f`, "x", api.ErrUnbound},
		{`g = f; f = g; h = case f of {K y y -> y}; i = \f -> f`, "y", api.ErrTwice},
		{`f = g; g = M; h = x`, "M", api.ErrUnbound},
		{`f = \g -> g; g = x`, "g", api.ErrTwice},
		{`g = x; f = \g -> g`, "x", api.ErrUnbound},
	} {
		isChecked(t, "data D {K : D; L : D}; "+c.s, c.want, c.e)
	}
}

// I3: what is free in what passes is declared, what is bound is not; and other names for what is bound change nothing.
func TestFollows(t *testing.T) {
	const s = `data N {Z : N; S : N -> N}; f : N -> N; f = \x -> case x of {Z -> g x; S y -> let z = f y in \x -> S z}; g = \x -> let y : N = x in f (f y)`
	l := parsed(t, s)
	isChecked(t, s, "", api.OK)
	isChecked(t, strings.NewReplacer("x", "a", "y", "x", "z", "a1").Replace(s), "", api.OK)
	for _, d := range l {
		if d.Kind == api.DeclBind && (names(d.E) != "g, f; Z, S; x, y, z" && names(d.E) != "f; ; x, y") {
			t.Error(names(d.E))
		}
	}
}

// R3, R4: no names are no names, and no lists none.
func TestNilAndEmpty(t *testing.T) {
	none := syntax.Expr{Kind: api.ECon, Name: "Z", Kids: []syntax.Expr{}, Alts: []syntax.Alt{}}
	for _, x := range []syntax.Expr{none, con("Z"), choice(none), {Kind: api.ECase, Kids: []syntax.Expr{con("Z")}, Alts: []syntax.Alt{}}, choice(con("Z"), syntax.Alt{Con: "Z", Vars: []string{}, Body: none}), choice(con("Z"), alt(con("Z"), "Z"))} {
		if len(scope.Free(x)) > 0 || len(scope.Bound(x)) > 0 || !slices.Equal(scope.Cons(x), []string{"Z"}) {
			t.Errorf("%s: %s", x.Print(), names(x))
		}
		for _, d := range []syntax.Decl{{Kind: api.DeclData, Name: "N", Cons: []syntax.Con{{Name: "Z"}}}, {Kind: api.DeclData, Name: "N", Params: []string{}, Cons: []syntax.Con{{Name: "Z"}}}} {
			for _, other := range []syntax.Decl{{Kind: api.DeclData, Name: "M"}, {Kind: api.DeclData, Name: "M", Params: []string{}, Cons: []syntax.Con{}}} {
				if name, e := scope.Check([]syntax.Decl{other, {Kind: api.DeclBind, Name: "f", E: x}, d}); name != "" || e != api.OK {
					t.Error(name, e)
				}
			}
		}
	}
	for _, l := range [][]syntax.Decl{nil, {}} {
		if name, e := scope.Check(l); name != "" || e != api.OK {
			t.Error(name, e)
		}
	}
}

// R5, R6: what is handed in stays as it was, what is answered stays as it was whatever is done with other answers, and two calls answer alike.
func TestNothingChanges(t *testing.T) {
	const s = `data P a b {K : P a b; S : P b a}; f : N; f = \x -> case f x y (z w) of {P a b c -> let x : T a b = y in x; S n -> (n m : N)}`
	l := parsed(t, s)
	l[2].E.Kids[0].Alts[0].Vars = append(make([]string, 0, 10), "a", "b", "c")
	for range 2 {
		x := l[2].E
		for _, ask := range []func(syntax.Expr) []string{scope.Free, scope.Cons, scope.Bound} {
			got := ask(x)
			want := slices.Clone(got)
			again := ask(x)
			for i := range got {
				got[i] = "changed"
			}
			_ = append(got, "grown")
			if !slices.Equal(again, want) || !slices.Equal(ask(x), want) {
				t.Errorf("%q, %q, not %q", again, ask(x), want)
			}
		}
		if name, e := scope.Check(l); name != "y" || e != api.ErrUnbound {
			t.Error(name, e)
		}
		if got := syntax.Print(l); got != s {
			t.Error(got)
		}
		if vars := x.Kids[0].Alts[0].Vars; !slices.Equal(vars[:10], []string{"a", "b", "c", "", "", "", "", "", "", ""}) {
			t.Error(vars[:10])
		}
	}
	if !reflect.DeepEqual(parsed(t, s), l) {
		t.Error("the tree is another one")
	}
}

// R1: of trees that no text writes nothing is promised but that each call ends, and does not panic.
func TestNoTrees(t *testing.T) {
	x := v("x")
	odd := []syntax.Expr{{}, {Kind: -1}, {Kind: 99, Name: "x", Kids: []syntax.Expr{x}}, {Kind: api.EVar, Kids: []syntax.Expr{x}, Alts: []syntax.Alt{{}}}, {Kind: api.ECase, Alts: []syntax.Alt{{}, {Vars: []string{"", ""}}}}}
	for kind := api.EVar; kind <= api.EAnn; kind++ {
		odd = append(odd, syntax.Expr{Kind: kind}, syntax.Expr{Kind: kind, Kids: []syntax.Expr{{}}}, syntax.Expr{Kind: kind, Kids: []syntax.Expr{x, {}, x}, Alts: []syntax.Alt{{}}})
	}
	for _, x := range odd {
		odd = append(odd, lam("", x), app(x, x), let("x", x, x), choice(x, alt(x, "")), ann(x))
	}
	for _, x := range odd {
		names(x)
		for kind := -1; kind <= 4; kind++ {
			scope.Check([]syntax.Decl{{}, {Kind: kind, E: x, Params: []string{""}, Cons: []syntax.Con{{}}}, {Kind: kind, Name: "x", E: x}})
		}
	}
}

// I1, I2: each call ends with expressions of 2^16 within one another, in good time.
func TestDeepEnds(t *testing.T) {
	const deep = 1 << 16
	x := v("x")
	for way, deeper := range map[string]func(e syntax.Expr) syntax.Expr{
		"lam":   func(e syntax.Expr) syntax.Expr { return lam("y", e) },
		"left":  func(e syntax.Expr) syntax.Expr { return app(e, x) },
		"right": func(e syntax.Expr) syntax.Expr { return app(x, e) },
		"let":   func(e syntax.Expr) syntax.Expr { return let("y", e, x) },
		"in":    func(e syntax.Expr) syntax.Expr { return told("y", x, e) },
		"case":  func(e syntax.Expr) syntax.Expr { return choice(e, alt(x, "Z")) },
		"alt":   func(e syntax.Expr) syntax.Expr { return choice(x, alt(x, "Z"), alt(e, "S", "y")) },
		"ann":   ann,
	} {
		e := app(x, con("K"))
		for range deep - 2 {
			e = deeper(e)
		}
		if free, cons, bound := scope.Free(e), scope.Cons(e), scope.Bound(e); !slices.Equal(free, []string{"x"}) || len(cons) == 0 || len(bound) > 1 {
			t.Errorf("%s: %s, %s, %s", way, free, cons, bound)
		}
		if name, err := scope.Check([]syntax.Decl{{Kind: api.DeclBind, Name: "x", E: e}}); len(name) != 1 || err != api.ErrUnbound {
			t.Errorf("%s: %s, %v", way, name, err)
		}
	}
}
