package types_test

import (
	"reflect"
	"slices"
	"strings"
	"testing"

	"savant/api"
	"savant/lex"
	"savant/types"
)

// parsed is the type of a text that must be one.
func parsed(t *testing.T, s string) types.Type {
	t.Helper()
	x, e := types.Parse(s)
	if e != api.OK {
		t.Fatalf("Parse(%q): %v", s, e)
	}
	return x
}

// isRefused asks whether Parse answers this error and no type.
func isRefused(t *testing.T, s string, want api.Errno) {
	t.Helper()
	x, e := types.Parse(s)
	if e != want || !reflect.DeepEqual(x, types.Type{}) {
		t.Errorf("Parse(%.40q) answers %+v, %v, not %v", s, x, e, want)
	}
}

func tokens(t *testing.T, s string) []api.Token {
	t.Helper()
	l, _, e := lex.Scan(s)
	if e != api.OK {
		t.Fatalf("Scan(%q): %v", s, e)
	}
	return l
}

func v(name string) types.Type { return types.Type{Kind: api.Var, Name: name} }

func meta(n int) types.Type { return types.Type{Kind: api.Meta, N: n} }

func con(name string, args ...types.Type) types.Type {
	return types.Type{Kind: api.Con, Name: name, Args: args}
}

func fun(from, to types.Type) types.Type {
	return types.Type{Kind: api.Fun, Args: []types.Type{from, to}}
}

func all(name string, body types.Type) types.Type {
	return types.Type{Kind: api.All, Name: name, Args: []types.Type{body}}
}

// B1 to B5: the chapter's examples.
func TestExamples(t *testing.T) {
	x := parsed(t, "forall a.forall b . (a->T (b))->b")
	if x.Print() != "forall a b. (a -> T b) -> b" || x.Canon() != "forall x0 x1. (x0 -> T x1) -> x1" {
		t.Errorf("%q, %q", x.Print(), x.Canon())
	}
	x = parsed(t, "T a (U b) ?3 -> (c -> d)")
	if x.Print() != "T a (U b) ?3 -> c -> d" || !slices.Equal(x.Free(), []string{"a", "b", "c", "d"}) || !slices.Equal(x.Metas(), []int{3}) {
		t.Errorf("%q, %v, %v", x.Print(), x.Free(), x.Metas())
	}
	if got := parsed(t, "forall a. x0 -> a").Canon(); got != "forall x1. x0 -> x1" {
		t.Errorf("%q", got)
	}
	if got := parsed(t, "forall a. a -> b").Put("b", v("a")).Canon(); got != "forall x0. x0 -> a" {
		t.Errorf("%q", got)
	}
	for _, s := range []string{"a b", "->", "forall . a", "T )", ""} {
		isRefused(t, s, api.ErrType)
	}
}

// B1: each text is read as this tree, exactly.
func TestTrees(t *testing.T) {
	for s, want := range map[string]types.Type{
		"a":                        v("a"),
		"?0":                       meta(0),
		"?7":                       meta(7),
		"?999999":                  meta(999999),
		"Int":                      con("Int"),
		"((Int))":                  con("Int"),
		"T a":                      con("T", v("a")),
		"T U V":                    con("T", con("U"), con("V")),
		"T (U V)":                  con("T", con("U", con("V"))),
		"T a ?1 (b) (U c) (a->b)":  con("T", v("a"), meta(1), v("b"), con("U", v("c")), fun(v("a"), v("b"))),
		"T(forall a.a)b":           con("T", all("a", v("a")), v("b")),
		"a -> b":                   fun(v("a"), v("b")),
		"a -> b -> c":              fun(v("a"), fun(v("b"), v("c"))),
		"a -> (b -> c)":            fun(v("a"), fun(v("b"), v("c"))),
		"(a -> b) -> c":            fun(fun(v("a"), v("b")), v("c")),
		"T a -> U b":               fun(con("T", v("a")), con("U", v("b"))),
		"forall a. a":              all("a", v("a")),
		"forall a b. a":            all("a", all("b", v("a"))),
		"forall a. forall b. a":    all("a", all("b", v("a"))),
		"forall a. (forall b. a)":  all("a", all("b", v("a"))),
		"forall a a. a":            all("a", all("a", v("a"))),
		"forall a. a -> b":         all("a", fun(v("a"), v("b"))),
		"(forall a. a) -> b":       fun(all("a", v("a")), v("b")),
		"b -> forall a. a -> c":    fun(v("b"), all("a", fun(v("a"), v("c")))),
		"forall a b c d. T d c ?2": all("a", all("b", all("c", all("d", con("T", v("d"), v("c"), meta(2)))))),
	} {
		if x, e := types.Parse(s); e != api.OK || tree(x) != tree(want) {
			t.Errorf("Parse(%q) answers %s, %v, not %s", s, tree(x), e, tree(want))
		}
	}
}

// B1: what stands between tokens does not matter.
func TestBetweenTokens(t *testing.T) {
	want := parsed(t, "forall a b. (a -> T b ?1) -> b")
	for _, s := range []string{"forall a b.(a->T b?1)->b", " forall\ta\nb . # a remark . (\n( a -> T b ?1 ) -> b # end", "forall a.(forall b.(((a)->(T b(?1)))->b))"} {
		if x, e := types.Parse(s); e != api.OK || tree(x) != tree(want) {
			t.Errorf("Parse(%q) answers %s, %v", s, tree(x), e)
		}
	}
}

// B1: texts that are no tokens, with chapter 1's errors.
func TestNoTokens(t *testing.T) {
	for _, s := range []string{"-", "a - b", "_a", "?", "?x", "?01", "?1000000", "01", "1234567", "abcdefghijklmnopq", "T Abcdefghijklmnopq", "a\r", "a|b", "\xff", "a b -"} {
		isRefused(t, s, api.ErrLex)
	}
}

// B1: tokens that are no type, that end too soon, or that are a type with more behind it.
func TestNoType(t *testing.T) {
	none := []string{"", " ", "# a", "->", "-> a", ")", "()", ".", "1", "in", "forall . a", "forall. a", "forall A. a", "forall ?1. a", "forall (a). a", "forall a -> a", "forall a, b. a", "forall a forall b. a", "forall a. . a", "a -> -> b", "T -> )", "T (", "(a", "((a)", "(a b)", "(T a", "T (a b)", "T ((a)", "T (->)", "forall", "forall a", "forall a b", "forall a.", "forall a. a ->", "a ->", "T ->", "T a ->", "(a ->", "(a -> )"}
	more := []string{"a b", "a T", "a ?1", "?1 a", "?1 ?2", "a (b)", "(a) b", "(T a) b", "(T) a", "T )", "a)", "(a))", "a ;", "a = b", "a ~ b", "a . b", "a 1", "T 1", "T a 1", "T a = b", "a forall b. b", "T forall a. a", "T a forall b. b", "a , b", "<a>", "forall a. a b", "a -> b c", "a -> forall b. b c", "a data", "T in", "T [a]", "T {a}", "a |> b", "a @ b", "a !", `\ a`}
	for _, s := range append(none, more...) {
		isRefused(t, s, api.ErrType)
	}
}

// B1: 4000 bytes are read, 4001 are too long, whatever they are; R2: that comes ahead of other errors.
func TestInputLimit(t *testing.T) {
	long := "T" + strings.Repeat(" ab", (api.MaxInput-1)/3)
	if len(long) != api.MaxInput {
		t.Fatal(len(long))
	}
	if x := parsed(t, long); len(x.Args) != (api.MaxInput-1)/3 || x.Depth() != 2 || x.Print() != long {
		t.Errorf("%d arguments", len(x.Args))
	}
	parsed(t, "a"+strings.Repeat(" ", api.MaxInput-1))
	parsed(t, strings.Repeat("(", api.MaxInput/2-1)+"ab"+strings.Repeat(")", api.MaxInput/2-1))
	isRefused(t, long+" ", api.ErrLong)
	isRefused(t, "a"+strings.Repeat(" ", api.MaxInput), api.ErrLong)
	isRefused(t, strings.Repeat("-", api.MaxInput+1), api.ErrLong)
	isRefused(t, strings.Repeat(" ", api.MaxInput+1), api.ErrLong)
	isRefused(t, strings.Repeat(" ", api.MaxInput), api.ErrType)
	isRefused(t, strings.Repeat("-", api.MaxInput), api.ErrLex)
}

// nested are texts of types that are deep by one way of standing within one another, with all depths from 1 on.
var nested = map[string]func(deep int) string{
	"right":     func(deep int) string { return strings.Repeat("a -> ", deep-1) + "a" },
	"left":      func(deep int) string { return strings.Repeat("(", deep-1) + "a" + strings.Repeat(" -> b)", deep-1) },
	"argument":  func(deep int) string { return strings.Repeat("T a (", deep-1) + "?1" + strings.Repeat(") a", deep-1) },
	"one":       func(deep int) string { return strings.Repeat("T (", deep-1) + "T" + strings.Repeat(")", deep-1) },
	"for all":   func(deep int) string { return strings.Repeat("forall a. ", deep-1) + "a" },
	"for alls":  func(deep int) string { return forAlls(deep-1) + "b" },
	"right all": func(deep int) string { return strings.Repeat("a -> ", (deep-1)/2) + forAlls(deep-1-(deep-1)/2) + "b" },
}

// forAlls is what stands ahead of a type that is for all of so many names.
func forAlls(n int) string {
	if n == 0 {
		return ""
	}
	return "forall" + strings.Repeat(" a", n) + ". "
}

// B1, B3: depth 50 is read, 51 is too deep; R2: ErrType comes ahead of ErrDeep.
func TestDepthLimit(t *testing.T) {
	for way, text := range nested {
		for deep := 1; deep <= api.MaxDepth; deep++ {
			if got := parsed(t, text(deep)).Depth(); got != deep {
				t.Errorf("%s: depth %d, not %d", way, got, deep)
			}
		}
		for deep := api.MaxDepth + 1; deep <= api.MaxDepth+9; deep++ {
			isRefused(t, text(deep), api.ErrDeep)
		}
		isRefused(t, text(api.MaxDepth+1)+" )", api.ErrType)
		isRefused(t, text(api.MaxDepth+1)+" ->", api.ErrType)
		isRefused(t, text(api.MaxDepth+1)+" -", api.ErrLex)
	}
	parens := api.MaxDepth * 4
	if x := parsed(t, strings.Repeat("(", parens)+"T a"+strings.Repeat(")", parens)); x.Depth() != 2 {
		t.Errorf("parentheses count: %d", x.Depth())
	}
}

// B3: a type is as deep as the deepest of its arguments, and one more.
func TestDepth(t *testing.T) {
	for s, want := range map[string]int{"a": 1, "?3": 1, "Int": 1, "T a": 2, "T a (U b) c": 3, "T (U (V a)) b": 4, "a -> b": 2, "T a -> b": 3, "a -> T b": 3, "forall a. a": 2, "forall a b. Int": 3, "(forall a. a -> a) -> b": 4} {
		if got := parsed(t, s).Depth(); got != want {
			t.Errorf("%q: %d, not %d", s, got, want)
		}
	}
}

// B1: Read goes as far as it can, and answers what stands behind the type.
func TestRead(t *testing.T) {
	for s, want := range map[string][2]string{
		"a":                            {"a", ""},
		"a b":                          {"a", "b"},
		"?1 T":                         {"?1", "T"},
		"(T a) b":                      {"T a", "b"},
		"T a b ~ c":                    {"T a b", "~ c"},
		"T forall a . a":               {"T", "forall a . a"},
		"a . b":                        {"a", ". b"},
		"T a ) ->":                     {"T a", ") ->"},
		"a -> b c -> d":                {"a -> b", "c -> d"},
		"a -> T b c ; -> d":            {"a -> T b c", "; -> d"},
		"forall a . a -> b , c":        {"forall a. a -> b", ", c"},
		"a > b":                        {"a", "> b"},
		"T (a) (b -> c) > d":           {"T a (b -> c)", "> d"},
		"a forall b . b":               {"a", "forall b . b"},
		"( forall a . a ) ( -> ":       {"forall a. a", "( ->"},
		"forall a b . T a = K":         {"forall a b. T a", "= K"},
		"a -> forall b . b -> c } { (": {"a -> forall b. b -> c", "} { ("},
	} {
		l := tokens(t, s)
		x, rest, ok := types.Read(l)
		if !ok || x.Print() != want[0] || texts(rest) != want[1] || !slices.Equal(rest, l[len(l)-len(rest):]) {
			t.Errorf("Read(%q) answers %q, %q, %v", s, x.Print(), texts(rest), ok)
		}
	}
}

// B1, R3: where what must stand does not, Read answers false and nothing else, though what stands ahead would be a type.
func TestReadRefuses(t *testing.T) {
	for _, s := range []string{"", ")", "->", "1", "a ->", "a -> )", "T a -> -> b", "T (", "T a (", "T a (b", "T a (b c)", "T ( )", "(a ; )", "forall", "forall a", "forall a ; a", "forall . a", "forall a .", "forall a . )", "forall a T . a", "forall a ?1 . a", "a -> forall", "T (forall a)", "data", "~ a"} {
		x, rest, ok := types.Read(tokens(t, s))
		if ok || len(rest) != 0 || !reflect.DeepEqual(x, types.Type{}) {
			t.Errorf("Read(%q) answers %+v, %v, %v", s, x, rest, ok)
		}
	}
}

// B1: depth does not matter to Read.
func TestReadDeep(t *testing.T) {
	for way, text := range nested {
		for _, deep := range []int{api.MaxDepth, api.MaxDepth + 1, 200} {
			x, rest, ok := types.Read(tokens(t, text(deep)+" ;"))
			if !ok || texts(rest) != ";" || x.Depth() != deep {
				t.Errorf("%s %d: depth %d, %v", way, deep, x.Depth(), ok)
			}
		}
	}
}

// B2: texts as they are printed.
func TestPrint(t *testing.T) {
	for s, want := range map[string]string{
		"forall a.forall b . (a->T (b))->b": "forall a b. (a -> T b) -> b",
		"T a (U b) ?3 -> (c -> d)":          "T a (U b) ?3 -> c -> d",
		"((a))":                             "a",
		"(?0)":                              "?0",
		"((T))":                             "T",
		"?999999":                           "?999999",
		"T (a) (?1) (U)":                    "T a ?1 U",
		"T((U a))":                          "T (U a)",
		"T (a -> b) (forall a.a)":           "T (a -> b) (forall a. a)",
		"(T a) -> (U b)":                    "T a -> U b",
		"(a)->((b)->(c))":                   "a -> b -> c",
		"((a->b))->c":                       "(a -> b) -> c",
		"((a->b)->c)->d":                    "((a -> b) -> c) -> d",
		"(forall a.a)->b":                   "(forall a. a) -> b",
		"b->(forall a.a)":                   "b -> forall a. a",
		"b->(forall a.(a->(c)))":            "b -> forall a. a -> c",
		"forall a.(forall b.(a))":           "forall a b. a",
		"forall a b.forall c.(forall d.a)":  "forall a b c d. a",
		"forall a.(a->(forall b.b))":        "forall a. a -> forall b. b",
		"forall a.(forall b.b)->a":          "forall a. (forall b. b) -> a",
		"forall a.T(forall b.forall c.b)":   "forall a. T (forall b c. b)",
		"forall a a.a":                      "forall a a. a",
		"T (U (V (W a)))":                   "T (U (V (W a)))",
	} {
		if got := parsed(t, s).Print(); got != want {
			t.Errorf("%q is printed %q, not %q", s, got, want)
		}
	}
}

// B3: texts with canonical names.
func TestCanon(t *testing.T) {
	for s, want := range map[string]string{
		"forall a.forall b . (a->T (b))->b":              "forall x0 x1. (x0 -> T x1) -> x1",
		"forall a. x0 -> a":                              "forall x1. x0 -> x1",
		"a -> ?1":                                        "a -> ?1",
		"x0":                                             "x0",
		"forall a. Int":                                  "forall x0. Int",
		"forall a a. a":                                  "forall x0 x1. x1",
		"forall a. a -> forall a. a":                     "forall x0. x0 -> forall x1. x1",
		"forall a. (forall a. a) -> a":                   "forall x0. (forall x1. x1) -> x0",
		"(forall a. a) -> forall a. a":                   "(forall x0. x0) -> forall x1. x1",
		"T (forall a. a) (forall b c. c -> b)":           "T (forall x0. x0) (forall x1 x2. x2 -> x1)",
		"forall x1 x0. x1 -> x0":                         "forall x0 x1. x0 -> x1",
		"forall x1. forall x0. x2 -> x1 -> x0":           "forall x0 x1. x2 -> x0 -> x1",
		"(forall a b c. T a b c) -> x1":                  "(forall x0 x2 x3. T x0 x2 x3) -> x1",
		"(forall a b c d. T a b c d) -> T x2 x0 x3 -> a": "(forall x1 x4 x5 x6. T x1 x4 x5 x6) -> T x2 x0 x3 -> a",
		"(forall x0. x0) -> x0":                          "(forall x1. x1) -> x0",
		"x0 -> forall x1. x1":                            "x0 -> forall x1. x1",
		"forall a. x00 -> x01 -> a":                      "forall x0. x00 -> x01 -> x0",
		"forall x5. X0 x5":                               "forall x0. X0 x0",
		"forall a. a -> (forall b. b -> a) -> b":         "forall x0. x0 -> (forall x1. x1 -> x0) -> b",
		"forall a0 a1 a2 a3 a4 a5 a6 a7 a8 a9 b0. b0":    "forall x0 x1 x2 x3 x4 x5 x6 x7 x8 x9 x10. x10",
	} {
		if got := parsed(t, s).Canon(); got != want {
			t.Errorf("%q has the canonical text %q, not %q", s, got, want)
		}
	}
}

// B3: each group's types are the same, and those of two groups are not.
func TestSame(t *testing.T) {
	groups := [][]string{
		{"a", "(a)"}, {"b"}, {"?1"}, {"?0"}, {"T"}, {"U"}, {"T a"}, {"T b"}, {"T a a"}, {"T (U a)"}, {"T U a"},
		{"a -> b"}, {"b -> a"}, {"(a -> b) -> a"}, {"a -> b -> a", "a -> (b -> a)"},
		{"forall a. a", "forall b. b", "forall x0. x0"},
		{"forall a. b", "forall c. b"}, {"forall a. c", "forall b. c"},
		{"forall a. Int", "forall b. Int"}, {"Int"}, {"forall a b. Int", "forall a a. Int"},
		{"forall a b. a", "forall b a. b", "forall x. forall y. x"},
		{"forall a b. b", "forall b a. a", "forall a a. a", "forall b b. b", "forall c. (forall c. c)"},
		{"forall a b. a -> b", "forall b a. b -> a"}, {"forall a b. b -> a", "forall b a. a -> b"},
		{"forall a. a -> forall a. a", "forall a. a -> forall b. b", "forall b. b -> forall a. a"},
		{"forall a. a -> forall b. a", "forall b. b -> forall a. b"},
		{"forall a. (forall b. b) -> a", "forall a. (forall a. a) -> a"},
		{"forall a. (forall b. a) -> a"},
		{"(forall a. a) -> a", "(forall b. b) -> a"}, {"(forall a. a) -> b"}, {"(forall a. b) -> b", "(forall c. b) -> b"},
		{"forall a. ?1", "forall b. ?1"}, {"forall a. ?2"},
		{"forall a. T a b", "forall c. T c b"}, {"forall b. T a b"}, {"forall a. T a a", "forall b. T b b"},
	}
	for i, g := range groups {
		for j, h := range groups {
			for _, s := range g {
				for _, u := range h {
					x, y := parsed(t, s), parsed(t, u)
					if x.Same(y) != (i == j) || (x.Canon() == y.Canon()) != (i == j) {
						t.Errorf("%q and %q: %v", s, u, x.Same(y))
					}
				}
			}
		}
	}
}

// B3: whether there is a for all anywhere.
func TestPoly(t *testing.T) {
	for _, s := range []string{"a", "?1", "Int", "T a (U b) ?1", "a -> b -> c", "(a -> T b) -> c"} {
		if parsed(t, s).Poly() {
			t.Errorf("%q: a for all", s)
		}
	}
	for _, s := range []string{"forall a. a", "forall a. Int", "a -> forall b. c", "(forall a. a) -> b", "T a b (forall c. d)", "T (forall a. a) b", "T (U (V (forall a. a)))", "a -> b -> T (forall a. Int)"} {
		if !parsed(t, s).Poly() {
			t.Errorf("%q: no for all", s)
		}
	}
}

// B4: names that are free, and unknowns, in the order in which they are written first.
func TestFreeAndMetas(t *testing.T) {
	for s, want := range map[string]struct {
		free  string
		metas []int
	}{
		"T a (U b) ?3 -> (c -> d)":                      {"a b c d", []int{3}},
		"Int":                                           {"", nil},
		"b -> a -> b -> c -> a":                         {"b a c", nil},
		"?2 -> ?1 -> ?2 -> ?0 -> ?999999":               {"", []int{2, 1, 0, 999999}},
		"T ?5 (a -> ?4) ?5 -> forall b. ?3":             {"a", []int{5, 4, 3}},
		"forall a. a":                                   {"", nil},
		"forall a. b":                                   {"b", nil},
		"forall a. a -> b":                              {"b", nil},
		"a -> forall a. a":                              {"a", nil},
		"(forall a. a) -> a":                            {"a", nil},
		"(forall a. a) -> b -> a":                       {"b a", nil},
		"(forall a. b -> a) -> a -> b":                  {"b a", nil},
		"forall a. (forall a. a) -> a":                  {"", nil},
		"forall a. (forall a. a) -> b":                  {"b", nil},
		"(forall b. (forall a. T a b c) -> a) -> b":     {"c a b", nil},
		"T (forall a b. a -> b -> c) (forall c. c) b a": {"c b a", nil},
		"A b": {"b", nil},
	} {
		x := parsed(t, s)
		if got := strings.Join(x.Free(), " "); got != want.free {
			t.Errorf("%q: free are %q, not %q", s, got, want.free)
		}
		if got := x.Metas(); !slices.Equal(got, want.metas) {
			t.Errorf("%q: unknowns are %v, not %v", s, got, want.metas)
		}
	}
}

// B5: what comes of putting, but for names that are bound.
func TestPut(t *testing.T) {
	for _, c := range [][4]string{
		{"a", "a", "Int", "Int"},
		{"a", "b", "Int", "a"},
		{"T a b a", "a", "U c", "T (U c) b (U c)"},
		{"a -> b", "a", "c -> d", "(c -> d) -> b"},
		{"a -> b", "b", "c -> d", "a -> c -> d"},
		{"T a -> a", "a", "forall b. b", "T (forall b. b) -> forall b. b"},
		{"a -> a", "a", "T a", "T a -> T a"},
		{"a -> b", "a", "b", "b -> b"},
		{"A a", "A", "b", "A a"},
		{"?1", "a", "b", "?1"},
		{"T ?0 a", "", "b", "T ?0 a"},
		{"forall a. a", "a", "Int", "forall a. a"},
		{"a -> forall a. a -> b", "a", "Int", "Int -> forall a. a -> b"},
		{"(forall a. a) -> a", "a", "b", "(forall a. a) -> b"},
		{"forall a. b", "b", "Int", "forall a. Int"},
		{"forall a. a -> b", "b", "a", "forall x0. x0 -> a"},
		{"forall a. a -> b", "b", "T a", "forall x. x -> T a"},
		{"forall a. b", "b", "a", "forall x. a"},
		{"forall a a. a -> b", "b", "a", "forall x y. y -> a"},
		{"forall a. a -> forall a. a -> b", "b", "a", "forall x. x -> forall y. y -> a"},
		{"forall a. (forall a. a) -> b -> a", "b", "a", "forall x. (forall y. y) -> a -> x"},
		{"forall a. (forall c. T a b c) -> b", "b", "a -> c", "forall x. (forall y. T x (a -> c) y) -> a -> c"},
		{"forall a. a -> b", "b", "forall a. a", "forall x. x -> forall y. y"},
		{"forall a. a -> b", "b", "(forall a. a) -> a", "forall x. x -> (forall y. y) -> a"},
		{"forall a. a -> b", "b", "x0", "forall y. y -> x0"},
		{"forall x0. x0 -> b", "b", "x0", "forall y. y -> x0"},
		{"forall x0 x1. T x0 x1 b", "b", "x0 -> x1", "forall y z. T y z (x0 -> x1)"},
		{"forall a. T a x0 x1 b", "b", "a", "forall y. T y x0 x1 a"},
		{"forall a x0. T a x0 b", "b", "a", "forall y z. T y z a"},
		{"forall a. a -> forall x0. T a x0 b", "b", "a", "forall y. y -> forall z. T y z a"},
		{"forall a x0. T a b", "b", "a", "forall y z. T y a"},
		{"forall a x0 x1. T a b", "b", "a -> x0", "forall y z w. T y (a -> x0)"},
		{"forall a. T a b -> forall b. T a b", "b", "a", "forall y. T y a -> forall z. T y z"},
		{"forall a. a -> b -> c", "c", "b", "forall a. a -> b -> b"},
		{"forall b. a -> b", "a", "b", "forall c. b -> c"},
		{"forall b. b -> a", "b", "a", "forall b. b -> a"},
	} {
		got := parsed(t, c[0]).Put(c[1], parsed(t, c[2]))
		if !got.Same(parsed(t, c[3])) {
			t.Errorf("%q Put(%s, %q) answers %q, not %q", c[0], c[1], c[2], got.Print(), c[3])
		}
		isWritable(t, got)
	}
}

// B5: likewise of unknowns.
func TestFill(t *testing.T) {
	for _, c := range []struct {
		s    string
		meta int
		u    string
		want string
	}{
		{"?1", 1, "Int", "Int"},
		{"?1", 2, "Int", "?1"},
		{"?0 -> ?10 -> ?1", 1, "a", "?0 -> ?10 -> a"},
		{"?0 -> ?999999", 999999, "a", "?0 -> a"},
		{"T ?1 ?2 ?1", 1, "U c", "T (U c) ?2 (U c)"},
		{"?1 -> ?1", 1, "T ?1", "T ?1 -> T ?1"},
		{"?1 -> ?2", 1, "?2", "?2 -> ?2"},
		{"a -> T", 0, "b", "a -> T"},
		{"forall a. a -> ?1", 1, "Int", "forall a. a -> Int"},
		{"forall a. a -> ?1", 1, "a", "forall x. x -> a"},
		{"forall a. a -> ?1", 1, "a -> ?1", "forall x. x -> a -> ?1"},
		{"forall a. T a ?1 (forall a. a -> ?1)", 1, "a", "forall x. T x a (forall y. y -> a)"},
		{"forall a x0. T a x0 ?1", 1, "a -> x0", "forall y z. T y z (a -> x0)"},
		{"forall a. ?1", 1, "forall b. b -> a", "forall x. forall b. b -> a"},
		{"forall a. T a ?2", 1, "a", "forall a. T a ?2"},
	} {
		got := parsed(t, c.s).Fill(c.meta, parsed(t, c.u))
		if !got.Same(parsed(t, c.want)) {
			t.Errorf("%q Fill(%d, %q) answers %q, not %q", c.s, c.meta, c.u, got.Print(), c.want)
		}
		isWritable(t, got)
	}
}

// B5: names that are bound change only where what is put would be caught.
func TestNamesThatStay(t *testing.T) {
	for _, c := range [][4]string{
		{"forall a. a -> b", "b", "c", "forall a. a -> c"},
		{"(forall a. a) -> b", "b", "a", "(forall a. a) -> a"},
		{"b -> forall a. (forall c. c) -> a", "b", "a -> c", "(a -> c) -> forall a. (forall c. c) -> a"},
		{"forall a. a -> forall b. b", "b", "a", "forall a. a -> forall b. b"},
		{"forall a. a -> b", "b", "forall a. a", "forall a. a -> forall a. a"},
		{"forall a. ?1 -> forall c. b", "b", "d", "forall a. ?1 -> forall c. d"},
	} {
		if got := parsed(t, c[0]).Put(c[1], parsed(t, c[2])).Print(); got != c[3] {
			t.Errorf("%q Put(%s, %q) answers %q, not %q", c[0], c[1], c[2], got, c[3])
		}
	}
}

// isWritable asks whether a type's text is read as it again: its names are words, as chapter 1 has them.
func isWritable(t *testing.T, x types.Type) {
	t.Helper()
	if y, e := types.Parse(x.Print()); e != api.OK || tree(y) != tree(x) {
		t.Errorf("%s is printed %q, and that read as %s, %v", tree(x), x.Print(), tree(y), e)
	}
}

// R4: no arguments are no arguments, whether there is a list or not.
func TestNilAndEmpty(t *testing.T) {
	x := con("T", v("a"), types.Type{Kind: api.Con, Name: "U", Args: []types.Type{}})
	y := con("T", types.Type{Kind: api.Var, Name: "a", Args: []types.Type{}}, types.Type{Kind: api.Con, Name: "U"})
	if x.Print() != "T a U" || y.Print() != "T a U" || x.Canon() != y.Canon() || !x.Same(y) || !y.Same(x) || x.Depth() != 2 || y.Depth() != 2 || x.Poly() || y.Poly() {
		t.Errorf("%q, %q", x.Print(), y.Print())
	}
	if _, _, ok := types.Read([]api.Token{}); ok {
		t.Error("an empty list is read")
	}
	if _, _, ok := types.Read(nil); ok {
		t.Error("nil is read")
	}
}

// R5, R6: what is handed in stays as it was, and two calls answer alike.
func TestNothingChanges(t *testing.T) {
	x, u := parsed(t, "forall a. T a (b -> ?1) (forall c. c -> b)"), parsed(t, "T a c x0")
	was, uWas := tree(x), tree(u)
	for range 2 {
		for _, got := range []string{tree(x.Put("b", u)), tree(x.Fill(1, u))} {
			if strings.Count(got, "x0") == 0 || strings.Count(got, "b") > 2 {
				t.Error(got)
			}
		}
		if tree(x.Put("b", u)) != tree(x.Put("b", u)) || tree(x.Fill(1, u)) != tree(x.Fill(1, u)) || x.Canon() != x.Canon() {
			t.Error("two answers")
		}
		x.Free()
		x.Metas()
		x.Same(u)
		if tree(x) != was || tree(u) != uWas {
			t.Errorf("changed: %s, %s", tree(x), tree(u))
		}
	}
	l := tokens(t, "T a (b -> c) ; d")
	lWas := slices.Clone(l)
	types.Read(l)
	if !slices.Equal(l, lWas) {
		t.Error("tokens are changed")
	}
}

// R1: of trees that are no types nothing is promised but that each call ends, and does not panic.
func TestNoTypes(t *testing.T) {
	a := v("a")
	odd := []types.Type{
		{}, {Kind: -1}, {Kind: 99, Name: "a", Args: []types.Type{a}}, {Kind: api.Fun}, {Kind: api.All}, {Kind: api.All, Name: "a"}, {Kind: api.Con}, {Kind: api.Var}, {Kind: api.Meta, N: -1 << 63},
		{Kind: api.Fun, Args: []types.Type{a}}, {Kind: api.Fun, Args: []types.Type{a, a, a}}, {Kind: api.All, Name: "a", Args: []types.Type{a, a}},
		{Kind: api.Var, Name: "a", Args: []types.Type{all("a", a)}}, {Kind: api.Meta, N: 1, Args: []types.Type{all("a", a)}},
	}
	for _, x := range odd {
		odd = append(odd, con("T", x, x), fun(x, a), all("a", x))
	}
	for _, x := range odd {
		x.Print()
		x.Canon()
		x.Free()
		x.Metas()
		x.Poly()
		x.Depth()
		for _, y := range odd {
			x.Same(y)
			x.Put("a", y).Print()
			x.Put("", y).Print()
			x.Fill(1, y).Print()
		}
	}
}

// R1: tokens that no text has are read, or not, without a panic.
func TestOddTokens(t *testing.T) {
	for kind := -1; kind <= 7; kind++ {
		for _, s := range []string{"", "?", "?x", "?99999999999999999999", "(", ")", "->", ".", "forall", "a", "T"} {
			x := api.Token{Kind: kind, Text: s}
			types.Read([]api.Token{x})
			types.Read([]api.Token{x, x})
			types.Read([]api.Token{{Kind: api.TokKey, Text: "forall"}, x, {Kind: api.TokSign, Text: "."}, x})
			types.Read([]api.Token{{Kind: api.TokSign, Text: "("}, x, {Kind: api.TokSign, Text: ")"}})
		}
	}
}

// R1: each call ends with types of 2^16 parts within one another, in good time.
func TestDeepEnds(t *testing.T) {
	const deep = 1 << 16
	left, within, forAlls := v("b"), v("b"), v("b")
	for range deep - 1 {
		left, within, forAlls = fun(left, v("a")), con("T", v("a"), within, meta(1)), all("a", forAlls)
	}
	for _, x := range []types.Type{left, within, forAlls} {
		if x.Depth() != deep || !x.Same(x) || !slices.Contains(x.Free(), "b") || x.Poly() != (x.Kind == api.All) || len(x.Metas()) > 1 {
			t.Error("deep: what is in it")
		}
		if y, rest, ok := types.Read(written(x.Print())); !ok || len(rest) > 0 || !y.Same(x) {
			t.Error("deep: not read again")
		}
		if y, rest, ok := types.Read(written(x.Canon())); !ok || len(rest) > 0 || !y.Same(x) {
			t.Error("deep: canonical text not read again")
		}
		for _, y := range []types.Type{x.Put("b", con("T", v("a"))), all("a", fun(v("a"), v("c"))).Put("c", x), fun(v("c"), meta(2)).Fill(2, x)} {
			if y.Depth() <= deep || y.Same(x) {
				t.Error("deep: not put")
			}
		}
	}
}

// written are the tokens of a text that is longer than chapter 1 lets one be.
func written(s string) []api.Token {
	for _, sign := range []string{"(", ")", "."} {
		s = strings.ReplaceAll(s, sign, " "+sign+" ")
	}
	var l []api.Token
	for _, w := range strings.Fields(s) {
		x, _, _ := lex.Scan(w)
		l = append(l, x...)
	}
	return l
}
