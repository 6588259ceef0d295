package decls_test

import (
	"reflect"
	"slices"
	"strconv"
	"strings"
	"testing"

	"savant/api"
	"savant/coerce"
	"savant/decls"
	"savant/syntax"
	"savant/types"
)

// parsed is the program of a text that must be one.
func parsed(t *testing.T, s string) []syntax.Decl {
	t.Helper()
	l, e := syntax.Parse(s)
	if e != api.OK {
		t.Fatalf("Parse(%q): %v", s, e)
	}
	return l
}

// typ is the type of a text that must be one.
func typ(t *testing.T, s string) types.Type {
	t.Helper()
	u, e := types.Parse(s)
	if e != api.OK {
		t.Fatalf("Parse(%q): %v", s, e)
	}
	return u
}

// table is the one of a program with which nothing must be wrong.
func table(t *testing.T, s string) *decls.Table {
	t.Helper()
	got, name, e := decls.New(parsed(t, s))
	if got == nil || name != "" || e != api.OK {
		t.Fatalf("New of %q: %v, %q, %v", s, got, name, e)
	}
	return got
}

// shown is a constructor as the chapter's table of examples writes it; names that are bound within its types are the canonical ones.
func shown(c decls.Con) string {
	var givens, args []string
	for _, g := range c.Givens {
		givens = append(givens, g.Name+": "+g.L.Canon()+" ~ "+g.R.Canon())
	}
	for _, a := range c.Args {
		args = append(args, a.Canon())
	}
	var parts []string
	for _, l := range [][]string{c.Univ, c.Exis, givens, args} {
		if len(l) == 0 {
			l = []string{"none"}
		}
		parts = append(parts, strings.Join(l, ", "))
	}
	return strings.Join(parts, "; ")
}

// isCon asks a table for a constructor of that name.
func isCon(t *testing.T, tab *decls.Table, name, want string) {
	t.Helper()
	c, ok := tab.Con(name)
	if got := shown(c); got != want || !ok || c.Name != name {
		t.Errorf("%s: %q (%q, %v), not %q", name, got, c.Name, ok, want)
	}
}

// isWrong asks New of a text for that name and error, and no table.
func isWrong(t *testing.T, s, want string, wantError api.Errno) {
	t.Helper()
	if tab, name, e := decls.New(parsed(t, s)); tab != nil || name != want || e != wantError {
		t.Errorf("New of %q answers %v, %q, %v, not %q, %v", s, tab, name, e, want, wantError)
	}
}

// isGood asks Good of a type's text for an error.
func isGood(t *testing.T, tab *decls.Table, s string, want api.Errno) {
	t.Helper()
	if e := tab.Good(typ(t, s)); e != want {
		t.Errorf("Good(%q) answers %v, not %v", s, e, want)
	}
}

const example = "data Int {I : Int}; data E a {L : Int -> E Int; P : forall b c. E b -> E c -> E (Q b c); U : forall d. d -> E d}; data Q x y {M : forall x y. x -> y -> Q x y; D : forall z. z -> Q z z}"

// K1, K3: the chapter's examples.
func TestExamples(t *testing.T) {
	tab := table(t, example)
	isCon(t, tab, "L", "u0; none; g0: u0 ~ Int; Int")
	isCon(t, tab, "P", "u0; e0, e1; g0: u0 ~ Q e0 e1; E e0, E e1")
	isCon(t, tab, "U", "u0; none; none; u0")
	isCon(t, tab, "M", "u0, u1; none; none; u0, u1")
	isCon(t, tab, "D", "u0, u1; none; g0: u1 ~ u0; u0")
	isCon(t, tab, "I", "none; none; none; none")
	isWrong(t, "data T a {K : T}", "K", api.ErrKind)
	isWrong(t, "data T {K : Int -> U}", "K", api.ErrKind)
	isWrong(t, "data T {K : a -> T}", "K", api.ErrOpen)
	isWrong(t, "data T a {K : forall b. T (forall c. c)}", "K", api.ErrResult)
	isWrong(t, "data T {K : forall b. b}", "K", api.ErrResult)
}

// around is the program of the data that the tests' types are of, with a constructor of one of three arguments.
func around(typ string) string {
	return "data N {}; data L a {}; data P a b {}; data T a b c {K : " + typ + "}"
}

// K3: which names, givens and arguments there are.
func TestCon(t *testing.T) {
	for s, want := range map[string]string{
		// Indices that are variables, one each.
		"forall a b c. T a b c":                        "u0, u1, u2; none; none; none",
		"forall a b c. T c a b":                        "u0, u1, u2; none; none; none",
		"forall a b c. a -> b -> T c b a":              "u0, u1, u2; none; none; u2, u1",
		"forall a. forall b c. a -> c -> b -> T a b c": "u0, u1, u2; none; none; u0, u2, u1",
		// A variable that an index ahead is: a given of it.
		"forall a. T a a a":               "u0, u1, u2; none; g0: u1 ~ u0, g1: u2 ~ u0; none",
		"forall a b. b -> a -> T a b a":   "u0, u1, u2; none; g0: u2 ~ u0; u1, u0",
		"forall a b. b -> a -> T b a a":   "u0, u1, u2; none; g0: u2 ~ u1; u0, u1",
		"forall a b. b -> a -> T a a b":   "u0, u1, u2; none; g0: u1 ~ u0; u2, u0",
		"forall a b. b -> a -> T (L a) a": "",
		// Other indices: in their givens stand names of those behind them, too.
		"T N N N":                                      "u0, u1, u2; none; g0: u0 ~ N, g1: u1 ~ N, g2: u2 ~ N; none",
		"forall a. T a N N":                            "u0, u1, u2; none; g0: u1 ~ N, g1: u2 ~ N; none",
		"forall a. T N a N":                            "u0, u1, u2; none; g0: u0 ~ N, g1: u2 ~ N; none",
		"forall a. T (L a) a a":                        "u0, u1, u2; none; g0: u0 ~ L u1, g1: u2 ~ u1; none",
		"forall a. T (L a) (L a) a":                    "u0, u1, u2; none; g0: u0 ~ L u2, g1: u1 ~ L u2; none",
		"forall a b. T a (a -> b) b":                   "u0, u1, u2; none; g0: u1 ~ u0 -> u2; none",
		"forall a. T (a -> N) (N -> a) (P a a)":        "u0, u1, u2; e0; g0: u0 ~ e0 -> N, g1: u1 ~ N -> e0, g2: u2 ~ P e0 e0; none",
		"forall a b. a -> b -> T (P b a) N (L (L b))":  "u0, u1, u2; e0, e1; g0: u0 ~ P e1 e0, g1: u1 ~ N, g2: u2 ~ L (L e1); e0, e1",
		"forall a. T Any (L Any) a":                    "u0, u1, u2; none; g0: u0 ~ Any, g1: u1 ~ L Any; none",
		"forall a. T (T a a a) a N":                    "u0, u1, u2; none; g0: u0 ~ T u1 u1 u1, g1: u2 ~ N; none",
		"forall a b c d e. T (P a b) (c -> d) (L e)":   "u0, u1, u2; e0, e1, e2, e3, e4; g0: u0 ~ P e0 e1, g1: u1 ~ e2 -> e3, g2: u2 ~ L e4; none",
		"forall a b c d e. T (P e d) (c -> b) (L a)":   "u0, u1, u2; e0, e1, e2, e3, e4; g0: u0 ~ P e4 e3, g1: u1 ~ e2 -> e1, g2: u2 ~ L e0; none",
		"forall a b c d e. T d (P e a) b":              "u0, u1, u2; e0, e1, e2; g0: u1 ~ P e2 e0; none",
		"forall a b c. c -> b -> a -> T (L b) b (L b)": "u0, u1, u2; e0, e1; g0: u0 ~ L u1, g1: u2 ~ L u1; e1, u1, e0",
		// Existential names are those of the for alls that are no index, in the order of the for alls.
		"forall a b c d. d -> T a b c":               "u0, u1, u2; e0; none; e0",
		"forall a b c d e f. f -> d -> e -> T c f a": "u0, u1, u2; e0, e1, e2; none; u1, e1, e2",
		"forall d a b c. T a b c":                    "u0, u1, u2; e0; none; none",
		// Names that several for alls bind mean the last one.
		"forall a a. a -> T a a N":        "u0, u1, u2; e0; g0: u1 ~ u0, g1: u2 ~ N; u0",
		"forall a b a. b -> a -> T b a b": "u0, u1, u2; e0; g0: u2 ~ u0; u0, u1",
		// Arguments are all that functions stand ahead of, whatever they are.
		"N -> L N -> (N -> N) -> T N N N":             "u0, u1, u2; none; g0: u0 ~ N, g1: u1 ~ N, g2: u2 ~ N; N, L N, N -> N",
		"forall a b c. T a b c -> T c b a -> T b c a": "u0, u1, u2; none; none; T u2 u0 u1, T u1 u0 u2",
		"forall a b c. (T a b c -> a) -> T a b c":     "u0, u1, u2; none; none; T u0 u1 u2 -> u0",
		// In arguments for alls may stand, which bind whatever they bind.
		"forall a b c. (forall a. a -> b) -> T a b c":                                "u0, u1, u2; none; none; forall x0. x0 -> u1",
		"forall a b c. (forall u0. u0 -> a) -> T a b c":                              "u0, u1, u2; none; none; forall x0. x0 -> u0",
		"forall a b c. (forall u0 u1. P u0 u1 -> P b a) -> T a b c":                  "u0, u1, u2; none; none; forall x0 x1. P x0 x1 -> P u1 u0",
		"forall a b c d. (forall e0 p0 p3. P e0 d -> P p0 p3) -> T a b c":            "u0, u1, u2; e0; none; forall x0 x1 x2. P x0 e0 -> P x1 x2",
		"forall a b c. (forall x. (forall u1. u1 -> x) -> b -> N) -> N -> T c b a":   "u0, u1, u2; none; none; forall x0. (forall x1. x1 -> x0) -> u1 -> N, N",
		"forall u1 u2 u0 e0. u0 -> u1 -> u2 -> e0 -> T u2 u0 u1":                     "u0, u1, u2; e0; none; u1, u2, u0, e0",
		"forall e1 e0 g0. e1 -> e0 -> g0 -> (forall p1 p0. P p1 p0) -> T N (L e1) N": "u0, u1, u2; e0, e1, e2; g0: u0 ~ N, g1: u1 ~ L e0, g2: u2 ~ N; e0, e1, e2, forall x0 x1. P x0 x1",
		"forall p2 p1 p0. p2 -> p1 -> p0 -> T p0 p2 p1":                              "u0, u1, u2; none; none; u1, u2, u0",
	} {
		if want == "" {
			isWrong(t, around(s), "K", api.ErrKind)
			continue
		}
		isCon(t, table(t, around(s)), "K", want)
	}
}

// twelve is what write makes of 0 to 11, with sep between.
func twelve(sep string, write func(i string) string) string {
	var l []string
	for i := range 12 {
		l = append(l, write(strconv.Itoa(i)))
	}
	return strings.Join(l, sep)
}

// K3: many of each.
func TestManyNames(t *testing.T) {
	name := func(i string) string { return "a" + i }
	program := "data N {}; data L a {}; data T " + twelve(" ", name) + " {K : forall " + twelve(" ", name) + ". " + twelve(" -> ", name) + " -> T "
	univ := twelve(", ", func(i string) string { return "u" + i })
	exis := twelve(", ", func(i string) string { return "e" + i })
	for indices, want := range map[string]string{
		twelve(" ", name): univ + "; none; none; " + univ,
		twelve(" ", func(i string) string { return "(L a" + i + ")" }): univ + "; " + exis + "; " + twelve(", ", func(i string) string { return "g" + i + ": u" + i + " ~ L e" + i }) + "; " + exis,
		twelve(" ", func(string) string { return "N" }):                univ + "; " + exis + "; " + twelve(", ", func(i string) string { return "g" + i + ": u" + i + " ~ N" }) + "; " + exis,
	} {
		isCon(t, table(t, program+indices+"}"), "K", want)
	}
}

// K3: a constructor's type as it is declared, its data, and its place among that one's constructors.
func TestWhereConsAre(t *testing.T) {
	tab := table(t, "f : N -> A; data N {Z : N; S : N -> N; Any : Any -> N}; f = Z; data A {}; data V a n {Cons : forall a n m. a -> V a m -> V a n; N : forall a. V a N}; data O {O : O}")
	for _, w := range []struct {
		name, data string
		tag        int
		t          string
	}{
		{"Z", "N", 0, "N"}, {"S", "N", 1, "N -> N"}, {"Any", "N", 2, "Any -> N"},
		{"Cons", "V", 0, "forall a n m. a -> V a m -> V a n"}, {"N", "V", 1, "forall a. V a N"}, {"O", "O", 0, "O"},
	} {
		c, ok := tab.Con(w.name)
		if !ok || c.Name != w.name || c.Data != w.data || c.Tag != w.tag || c.T.Print() != w.t {
			t.Errorf("%s: %s, %s, %d, %s, %v", w.name, c.Name, c.Data, c.Tag, c.T.Print(), ok)
		}
	}
	isCon(t, tab, "N", "u0, u1; none; g0: u1 ~ N; none")
	isCon(t, tab, "Cons", "u0, u1; e0; none; u0, V u0 e0")
	for _, name := range []string{"", "A", "V", "f", "z", "ZZ", "C"} {
		if c, ok := tab.Con(name); ok || !reflect.DeepEqual(c, decls.Con{}) {
			t.Errorf("%q: %v, %v", name, c, ok)
		}
	}
}

// K3: how many arguments data has, and which constructors.
func TestData(t *testing.T) {
	tab := table(t, "data N {Z : N; S : N -> N}; data O {}; data L a {Nil : forall a. L a; Cons : forall a. a -> L a -> L a}; data P b a {P : forall a b. P a b}; data Q a b c d e f g h i j k {}; f = Z; g : N; g = f")
	for name, want := range map[string]struct {
		arity int
		cons  string
	}{"N": {0, "Z S"}, "O": {0, ""}, "L": {1, "Nil Cons"}, "P": {2, "P"}, "Q": {11, ""}, "Any": {0, ""}} {
		if n, ok := tab.Arity(name); !ok || n != want.arity {
			t.Errorf("%s has %d arguments, %v", name, n, ok)
		}
		if got := strings.Join(tab.Cons(name), " "); got != want.cons {
			t.Errorf("%s has %q", name, got)
		}
	}
	for _, name := range []string{"", "Z", "S", "Nil", "f", "g", "a", "n", "NN", "any"} {
		if n, ok := tab.Arity(name); ok || n != 0 || len(tab.Cons(name)) != 0 {
			t.Errorf("%q: %d, %v, %q", name, n, ok, tab.Cons(name))
		}
	}
	if c, ok := tab.Con("Any"); ok {
		t.Error(c)
	}
}

// K2: what is well formed and closed, and what is not.
func TestGood(t *testing.T) {
	tab := table(t, "data N {Z : N}; data L a {}; data P a b {}")
	for s, want := range map[string]api.Errno{
		"N": api.OK, "Any": api.OK, "N -> N": api.OK, "L N": api.OK, "P N (L Any)": api.OK, "L (N -> N)": api.OK, "L (L (L N))": api.OK,
		"forall a. a": api.OK, "forall a. N": api.OK, "forall a. P a a": api.OK, "L (forall a. a)": api.OK, "(forall a. a) -> N": api.OK,
		"forall a. (forall a. a) -> a": api.OK, "forall a. forall a. a": api.OK, "forall a b. a -> L b": api.OK, "N -> forall a. a": api.OK,
		// Constructors that no data is, or with another number of arguments.
		"Z": api.ErrKind, "M": api.ErrKind, "L": api.ErrKind, "P": api.ErrKind, "P N": api.ErrKind, "P N N N": api.ErrKind, "L N N": api.ErrKind, "N N": api.ErrKind, "Any N": api.ErrKind,
		"N -> M": api.ErrKind, "M -> N": api.ErrKind, "L M": api.ErrKind, "P N L": api.ErrKind, "P L N": api.ErrKind, "L (L L)": api.ErrKind, "forall a. N a": api.ErrKind,
		"forall a. a -> L": api.ErrKind, "L (forall a. P a)": api.ErrKind, "Any Any": api.ErrKind, "L (Any N)": api.ErrKind, "K N": api.ErrKind, "NN": api.ErrKind,
		// Unknowns.
		"?1": api.ErrKind, "?0": api.ErrKind, "N -> ?1": api.ErrKind, "L ?1": api.ErrKind, "forall a. ?1": api.ErrKind, "forall a. P a (a -> ?2)": api.ErrKind,
		// What is free.
		"a": api.ErrOpen, "a -> N": api.ErrOpen, "N -> a": api.ErrOpen, "L a": api.ErrOpen, "forall a. b": api.ErrOpen, "(forall a. a) -> a": api.ErrOpen,
		"P (forall a. a) a": api.ErrOpen, "forall a. (forall b. b) -> b": api.ErrOpen, "forall a. P a (L b)": api.ErrOpen, "forall a. aa": api.ErrOpen,
		// Both: that it is not well formed comes first, wherever it stands.
		"a -> M": api.ErrKind, "M -> a": api.ErrKind, "a -> ?1": api.ErrKind, "?1 -> a": api.ErrKind, "P a": api.ErrKind, "L (a -> N N)": api.ErrKind, "forall b. P a L": api.ErrKind,
	} {
		isGood(t, tab, s, want)
	}
}

// K2: which data there is hangs on the program alone; Any is ever there.
func TestGoodByProgram(t *testing.T) {
	none := table(t, "")
	isGood(t, none, "Any", api.OK)
	isGood(t, none, "forall a. a -> Any", api.OK)
	isGood(t, none, "N", api.ErrKind)
	isGood(t, none, "Any Any", api.ErrKind)
	isGood(t, table(t, "data N a {}"), "N", api.ErrKind)
	isGood(t, table(t, "data N a {}"), "N Any", api.OK)
	isGood(t, table(t, "data M {N : M}; n = N"), "N", api.ErrKind)
	isGood(t, table(t, "f : Any -> Any; f = f"), "Any -> Any", api.OK)
}

// K1: programs with which nothing is wrong: what is used may be declared behind it, and bindings are not asked.
func TestNew(t *testing.T) {
	for _, s := range []string{
		"",
		"data N {}",
		"f = f",
		"data T a {}",
		"data N {N : N}",
		"data N {K : M -> N}; data M {L : N -> M}",
		"f : M; f = f; data M {}",
		"f : forall a b. a -> L b; data L a {}; f = f",
		"data T {K : Any -> (Any -> T) -> T}",
		"data T {K : T -> T -> T}",
		"data T {K : forall a. a -> T}",
		"data T {K : forall a. (forall b. b -> a) -> T}",
		"data T {K : forall a a. T}",
		"data T a {K : forall b. T b}",
		"data T a {K : T Any}",
		"data T a {K : T (T (T Any))}",
		"data T a {K : (forall b. T b) -> T (Any -> Any)}",
		`f = \x -> (x : M a ?1); g = let x : forall a. b = f in x`,
	} {
		table(t, s)
	}
}

// K1, ErrResult: behind the arguments stands another type than its data's, or a for all in an index.
func TestResult(t *testing.T) {
	for _, s := range []string{
		"N", "Any", "L N", "P N N", "N -> N", "T N N N -> N", "T N N N -> T N N N -> Any", "forall a. a", "forall a. N", "forall a. T a a a -> a",
		"forall a. a -> forall b. T a a b", "N -> forall a. T a a a", "forall a. N -> forall b. T a a b", "forall a. L (T a a a)", "(N -> T N N N) -> N",
		"T (forall a. a) N N", "T N (forall a. a) N", "T N N (forall a. a)", "forall a. T a a (L (forall b. b))", "forall a. T a a (N -> forall b. a)",
		"forall a b c. T a b (forall c. N)", "forall a. a -> T a a (forall b. a)", "N -> N -> T ((forall a. a) -> N) N N", "forall a. P (T a a a) a",
	} {
		isWrong(t, around(s), "K", api.ErrResult)
	}
	isWrong(t, "data T {K : U}; data U {L : T}", "K", api.ErrResult)
	isWrong(t, "data T {K : T}; data U {L : T}", "L", api.ErrResult)
	isWrong(t, "data T {T : U}; data U {U : U}", "T", api.ErrResult)
}

// K1: of one constructor or signature what Good tells comes first; of several the first one is told.
func TestOrder(t *testing.T) {
	for _, c := range []struct {
		s, want string
		e       api.Errno
	}{
		// Of one type.
		{"data T {K : a -> M}", "K", api.ErrKind},
		{"data T {K : a -> ?1}", "K", api.ErrKind},
		{"data T {K : ?1}", "K", api.ErrKind},
		{"data T {K : M}", "K", api.ErrKind},
		{"data T {K : a}", "K", api.ErrOpen},
		{"data T {K : a -> Any}", "K", api.ErrOpen},
		{"data T a {K : T a}", "K", api.ErrOpen},
		{"data T a {K : a -> T (forall c. c)}", "K", api.ErrOpen},
		{"data T a {K : M -> T (forall c. c)}", "K", api.ErrKind},
		{"data T a {K : forall b. T b b}", "K", api.ErrKind},
		{"data T {K : forall b. T b}", "K", api.ErrKind},
		// Signatures.
		{"f : M; f = f", "f", api.ErrKind},
		{"f : ?1; f = f", "f", api.ErrKind},
		{"f : a; f = f", "f", api.ErrOpen},
		{"f : a -> M; f = f", "f", api.ErrKind},
		{"f = f; f : a -> Any", "f", api.ErrOpen},
		// Constructor by constructor.
		{"data T {K : T; L : M}", "L", api.ErrKind},
		{"data T {K : Any; L : M}", "K", api.ErrResult},
		{"data T {K : Any; L : a}", "K", api.ErrResult},
		{"data T {K : a; L : M}", "K", api.ErrOpen},
		{"data T {K : T; L : a -> T; M : U}", "L", api.ErrOpen},
		{"data T {K : T; L : T -> T; M : Any}", "M", api.ErrResult},
		// Declaration by declaration, whatever they are of.
		{"data T {K : Any}; f : M; f = f", "K", api.ErrResult},
		{"f : M; f = f; data T {K : Any}", "f", api.ErrKind},
		{"f = f; f : a; data T {K : M}", "f", api.ErrOpen},
		{"data T {K : T}; f : a; f = f; data U {L : M}; g : M; g = g", "f", api.ErrOpen},
		{"f : T; f = f; data U {L : T}; data T {K : M}", "L", api.ErrResult},
		{"f : Any; g : M; f = f; g = g; data T {K : a}", "g", api.ErrKind},
		{"data T {}; f = (f : M a); data U {L : M}", "L", api.ErrKind},
	} {
		isWrong(t, c.s, c.want, c.e)
	}
}

// K4: where one constructor's type comes from what is told of it.
func TestFollows(t *testing.T) {
	tab := table(t, example)
	for name, want := range map[string]string{
		"I": "Int",
		"L": "Int -> E Int",
		"P": "forall e0 e1. E e0 -> E e1 -> E (Q e0 e1)",
		"U": "forall u0. u0 -> E u0",
		"M": "forall u0 u1. u0 -> u1 -> Q u0 u1",
		"D": "forall u0. u0 -> Q u0 u0",
	} {
		c, _ := tab.Con(name)
		if got := madeOf(c); got.Print() != want || !got.Same(c.T) {
			t.Errorf("%s: %q, not %q", name, got.Print(), want)
		}
	}
}

// R3, R4: no lists are none, whether there are lists or not.
func TestNilAndEmpty(t *testing.T) {
	k := types.Type{Kind: api.Con, Name: "T"}
	empty := types.Type{Kind: api.Con, Name: "T", Args: []types.Type{}}
	for _, x := range []types.Type{k, empty} {
		for _, params := range [][]string{nil, {}} {
			l := []syntax.Decl{{Kind: api.DeclData, Name: "T", Params: params, Cons: []syntax.Con{{Name: "K", T: x}, {Name: "L", T: types.Type{Kind: api.Fun, Args: []types.Type{empty, x}}}}}, {Kind: api.DeclData, Name: "N", Cons: []syntax.Con{}}}
			tab, name, e := decls.New(l)
			if name != "" || e != api.OK {
				t.Fatal(name, e)
			}
			isCon(t, tab, "K", "none; none; none; none")
			isCon(t, tab, "L", "none; none; none; T")
			if n, ok := tab.Arity("T"); n != 0 || !ok || len(tab.Cons("N")) != 0 || tab.Good(k) != api.OK || tab.Good(empty) != api.OK {
				t.Error(n, ok, tab.Cons("N"))
			}
		}
	}
	for _, l := range [][]syntax.Decl{nil, {}} {
		if tab, name, e := decls.New(l); tab == nil || name != "" || e != api.OK {
			t.Error(tab, name, e)
		}
	}
}

// R5, R6: what is handed in stays as it was, and two calls answer alike; who makes a list of an answer longer changes no other answer.
func TestNothingChanges(t *testing.T) {
	const s = "data N {}; data T a b c {K : forall a b c d. (forall u0. u0 -> a) -> d -> T (a -> b) a c; L : forall a. T a a a; M : forall a b c d e. T (L d) (L e) N}; f : forall a. a -> N; data L a {}; f = f"
	l := parsed(t, s)
	var first, again []decls.Con
	var was []string
	for range 2 {
		tab, _, e := decls.New(l)
		if e != api.OK {
			t.Fatal(e)
		}
		for _, name := range tab.Cons("T") {
			c, _ := tab.Con(name)
			d, _ := tab.Con(name)
			first, again, was = append(first, c), append(again, d), append(was, shown(c))
		}
		_, _ = append(tab.Cons("T"), "a"), append(tab.Cons("T"), "b")
	}
	for i, c := range first {
		d := again[i]
		c.Univ, d.Univ = append(c.Univ, "x"), append(d.Univ, "y")
		c.Exis, d.Exis = append(c.Exis, "x"), append(d.Exis, "y")
		c.Args, d.Args = append(c.Args, typ(t, "x")), append(d.Args, typ(t, "y"))
		c.Givens, d.Givens = append(c.Givens, coerce.Given{Name: "x", R: typ(t, "x")}), append(d.Givens, coerce.Given{Name: "y", R: typ(t, "y")})
		if strings.Contains(shown(c), "y") || strings.Contains(shown(d), "x;") {
			t.Error(shown(c), shown(d))
		}
	}
	for i := range first {
		if shown(first[i]) != was[i] || shown(again[i]) != was[i] || was[i] != was[i%3] {
			t.Error(shown(first[i]), shown(again[i]), was[i])
		}
	}
	if !reflect.DeepEqual(l, parsed(t, s)) {
		t.Error("changed")
	}
}

// R1: without a table, or with an empty one, there is nothing but Any.
func TestNoTable(t *testing.T) {
	for _, tab := range []*decls.Table{nil, {}} {
		if c, ok := tab.Con("Any"); ok || !reflect.DeepEqual(c, decls.Con{}) {
			t.Error(c)
		}
		if n, ok := tab.Arity("N"); ok || n != 0 {
			t.Error(n)
		}
		if n, ok := tab.Arity("Any"); !ok || n != 0 || len(tab.Cons("Any"))+len(tab.Cons("N")) != 0 {
			t.Error(n, ok)
		}
		isGood(t, tab, "forall a. a -> Any", api.OK)
		isGood(t, tab, "N", api.ErrKind)
		isGood(t, tab, "a", api.ErrOpen)
	}
}

// R1: of trees that no text writes, and of programs that chapter 9's Check does not let pass, nothing is promised but that each call ends, and does not panic.
func TestNoTrees(t *testing.T) {
	a := typ(t, "a")
	odd := []types.Type{{}, {Name: "a"}, a}
	for kind := -1; kind <= 6; kind++ {
		for n := range 4 {
			odd = append(odd, types.Type{Kind: kind, Name: "a", N: -1, Args: slices.Repeat([]types.Type{a}, n)}, types.Type{Kind: kind, Name: "T", Args: slices.Repeat([]types.Type{{}}, n)})
		}
	}
	for _, x := range odd {
		odd = append(odd, types.Type{Kind: api.All, Name: "a", Args: []types.Type{x}}, types.Type{Kind: api.Fun, Args: []types.Type{x, x}}, types.Type{Kind: api.Con, Name: "T", Args: []types.Type{x}})
	}
	for _, x := range odd {
		for kind := -1; kind <= 4; kind++ {
			for _, params := range [][]string{nil, {"a"}, {"", ""}} {
				d := syntax.Decl{Kind: kind, Name: "T", Params: params, T: x, Cons: []syntax.Con{{Name: "K", T: x}, {T: x}, {}}}
				for _, l := range [][]syntax.Decl{{d}, {d, d}, {d, {Kind: api.DeclData, Name: "T", Params: []string{"a"}, Cons: d.Cons[:2]}}, {{}, d}, {{Kind: api.DeclData, Name: "Any", Params: []string{"a"}}, d}} {
					tab, _, _ := decls.New(l)
					tab.Good(x)
					tab.Con("K")
					tab.Cons("T")
				}
			}
		}
	}
	for _, s := range []string{"data T a {}; data T {K : T}", "data T {}; data T a {K : forall a. T a}", "data T a a {K : forall a. T a a}", "data Any a {K : Any}", "data T {K : T; K : T -> T}", "f : T; f : T; data T {}"} {
		if tab, _, e := decls.New(parsed(t, s)); tab == nil && e == api.OK {
			t.Error(s)
		}
	}
}

// R1: each call ends with types of 2^16 within one another, and with as many names, in good time.
func TestDeepEnds(t *testing.T) {
	const deep = 1 << 16
	n, a := typ(t, "N"), typ(t, "a")
	inside, forAlls, args := a, a, n
	for i := range deep - 3 {
		inside = types.Type{Kind: api.Con, Name: "L", Args: []types.Type{inside}}
		forAlls = types.Type{Kind: api.All, Name: "a" + strconv.Itoa(i), Args: []types.Type{forAlls}}
		args = types.Type{Kind: api.Fun, Args: []types.Type{{Kind: api.Var, Name: "a" + strconv.Itoa(i)}, args}}
	}
	names := args
	for i := range deep - 3 {
		names = types.Type{Kind: api.All, Name: "a" + strconv.Itoa(i), Args: []types.Type{names}}
	}
	forAll := func(x types.Type) types.Type { return types.Type{Kind: api.All, Name: "a", Args: []types.Type{x}} }
	toN := types.Type{Kind: api.Fun, Args: []types.Type{forAlls, n}}
	program := func(k types.Type) []syntax.Decl {
		return []syntax.Decl{{Kind: api.DeclData, Name: "N", Cons: []syntax.Con{{Name: "K", T: k}}}, {Kind: api.DeclData, Name: "L", Params: []string{"a"}, Cons: []syntax.Con{{Name: "M", T: forAll(inside)}}}}
	}
	for i, k := range []types.Type{forAll(toN), names, forAll(types.Type{Kind: api.Fun, Args: []types.Type{inside, n}})} {
		tab, name, e := decls.New(program(k))
		if e != api.OK {
			t.Fatal(i, name, e)
		}
		c, _ := tab.Con("K")
		if len(c.Exis) != []int{1, deep - 3, 1}[i] || len(c.Args) != []int{1, deep - 3, 1}[i] || tab.Good(k) != api.OK || tab.Good(c.Args[0]) != api.ErrOpen {
			t.Error(i, len(c.Exis), len(c.Args))
		}
		if c, _ := tab.Con("M"); len(c.Exis) != 1 || len(c.Givens) != 1 || c.Givens[0].R.Depth() != deep-3 {
			t.Error(len(c.Exis), len(c.Givens))
		}
	}
	if _, name, e := decls.New(program(inside)); name != "K" || e != api.ErrOpen {
		t.Error(name, e)
	}
	if _, name, e := decls.New(program(forAll(forAlls))); name != "K" || e != api.ErrResult {
		t.Error(name, e)
	}
}
