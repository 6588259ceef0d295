package coerce_test

import (
	"reflect"
	"slices"
	"strings"
	"testing"

	"savant/api"
	"savant/coerce"
	"savant/lex"
	"savant/types"
)

func v(name string) types.Type { return types.Type{Kind: api.Var, Name: name} }

func con(name string, args ...types.Type) types.Type {
	return types.Type{Kind: api.Con, Name: name, Args: args}
}

func fun(from, to types.Type) types.Type {
	return types.Type{Kind: api.Fun, Args: []types.Type{from, to}}
}

func all(name string, body types.Type) types.Type {
	return types.Type{Kind: api.All, Name: name, Args: []types.Type{body}}
}

func given(name string) coerce.Co { return coerce.Co{Kind: api.CoVar, Name: name} }

func refl(t types.Type) coerce.Co { return coerce.Co{Kind: api.CoRefl, T: t} }

func of(kind int, kids ...coerce.Co) coerce.Co { return coerce.Co{Kind: kind, Kids: kids} }

func ofCon(name string, kids ...coerce.Co) coerce.Co {
	return coerce.Co{Kind: api.CoCon, Name: name, Kids: kids}
}

func ofAll(name string, k coerce.Co) coerce.Co {
	return coerce.Co{Kind: api.CoAll, Name: name, Kids: []coerce.Co{k}}
}

func nth(n int, k coerce.Co) coerce.Co {
	return coerce.Co{Kind: api.CoNth, N: n, Kids: []coerce.Co{k}}
}

func inst(k coerce.Co, t types.Type) coerce.Co {
	return coerce.Co{Kind: api.CoInst, T: t, Kids: []coerce.Co{k}}
}

// parsed is the coercion of a text that must be one.
func parsed(t *testing.T, s string) coerce.Co {
	t.Helper()
	c, e := coerce.Parse(s)
	if e != api.OK {
		t.Fatalf("Parse(%.80q): %v", s, e)
	}
	return c
}

func parsedType(t *testing.T, s string) types.Type {
	t.Helper()
	x, e := types.Parse(strings.TrimSpace(s))
	if e != api.OK {
		t.Fatalf("%q is no type: %v", s, e)
	}
	return x
}

// givens reads such as "c: a ~ Int, d: T a ~ T b".
func givens(t *testing.T, s string) []coerce.Given {
	t.Helper()
	var l []coerce.Given
	for _, g := range strings.Split(s, ",") {
		name, says, _ := strings.Cut(g, ":")
		left, right, ok := strings.Cut(says, "~")
		if ok {
			l = append(l, coerce.Given{Name: strings.TrimSpace(name), L: parsedType(t, left), R: parsedType(t, right)})
		} else if s != "" {
			t.Fatalf("%q is no given", g)
		}
	}
	return l
}

// told writes what Says answers: what is said, with canonical names, or the error.
func told(l, r types.Type, e api.Errno) string {
	switch {
	case e == api.OK:
		return l.Canon() + " ~ " + r.Canon()
	case !reflect.DeepEqual([2]types.Type{l, r}, [2]types.Type{}):
		return "types beside an error"
	case e == api.ErrCo:
		return "nothing"
	}
	return e.Error()
}

// isRefused asks whether Parse answers this error and no coercion.
func isRefused(t *testing.T, s string, want api.Errno) {
	t.Helper()
	c, e := coerce.Parse(s)
	if e != want || !reflect.DeepEqual(c, coerce.Co{}) {
		t.Errorf("Parse(%.60q) answers %.100s, %v, not %v", s, tree(c), e, want)
	}
}

func tokens(t *testing.T, s string) []api.Token {
	t.Helper()
	l, _, e := lex.Scan(s)
	if e != api.OK {
		t.Fatalf("Scan(%q): %v", s, e)
	}
	return l
}

func texts(l []api.Token) string {
	var words []string
	for _, x := range l {
		words = append(words, x.Text)
	}
	return strings.Join(words, " ")
}

// E1: each text is read as this tree, exactly.
func TestTrees(t *testing.T) {
	c, d, a := given("c"), given("d"), refl(v("a"))
	for s, want := range map[string]coerce.Co{
		"c":                           c,
		"a_1Z":                        given("a_1Z"),
		"<a>":                         a,
		"<Int>":                       refl(con("Int")),
		"<?12>":                       refl(types.Type{Kind: api.Meta, N: 12}),
		"<T a -> b>":                  refl(fun(con("T", v("a")), v("b"))),
		"<((a))>":                     a,
		"<forall a b. a>":             refl(all("a", all("b", v("a")))),
		"(Sym c)":                     of(api.CoSym, c),
		"(Sym <a>)":                   of(api.CoSym, a),
		"(Sym (Sym c))":               of(api.CoSym, of(api.CoSym, c)),
		"(Trans c d)":                 of(api.CoTrans, c, d),
		"(Trans (Sym c) <a>)":         of(api.CoTrans, of(api.CoSym, c), a),
		"(Con T)":                     ofCon("T"),
		"(Con T c)":                   ofCon("T", c),
		"(Con T c <a> (Sym d) <a> c)": ofCon("T", c, a, of(api.CoSym, d), a, c),
		"(Con Con (Con Sym))":         ofCon("Con", ofCon("Sym")),
		"(Fun c d)":                   of(api.CoFun, c, d),
		"(Fun (Fun c d) (Con T))":     of(api.CoFun, of(api.CoFun, c, d), ofCon("T")),
		"(All a c)":                   ofAll("a", c),
		"(All c (All d (Fun c d)))":   ofAll("c", ofAll("d", of(api.CoFun, c, d))),
		"(Nth 0 c)":                   nth(0, c),
		"(Nth 999999 <a>)":            nth(999999, a),
		"(Inst c <a>)":                inst(c, v("a")),
		"(Inst <a> <T b>)":            inst(a, con("T", v("b"))),
		"(Inst (Inst c <a>) <b>)":     inst(inst(c, v("a")), v("b")),
	} {
		if got := parsed(t, s); tree(got) != tree(want) || !slices.Equal(fields(got), fields(want)) {
			t.Errorf("Parse(%q) answers %+v", s, got)
		}
	}
}

// fields tells of a coercion and all in it whether something is in fields that its kind has not.
func fields(c coerce.Co) []bool {
	l := []bool{c.Name != "", c.N != 0, c.T.Kind != 0}
	for _, k := range c.Kids {
		l = append(l, fields(k)...)
	}
	return l
}

// E1: what stands between tokens does not matter, and a coercion is printed as the chapter writes it.
func TestPrint(t *testing.T) {
	for s, want := range map[string]string{
		"c":                                    "c",
		" ( Sym\tc\n) # a remark":              "(Sym c)",
		"(Trans(Sym c)<a>)":                    "(Trans (Sym c) <a>)",
		"( Con  T )":                           "(Con T)",
		"(Con T<a>c(Con U)<b>)":                "(Con T <a> c (Con U) <b>)",
		"(Fun <  U  > ( Sym c ))":              "(Fun <U> (Sym c))",
		"(All a(Fun<a>c))":                     "(All a (Fun <a> c))",
		"(Nth 0(Trans d<T b>))":                "(Nth 0 (Trans d <T b>))",
		"(Nth 999999 c)":                       "(Nth 999999 c)",
		"(Inst<forall e.e->e><Int>)":           "(Inst <forall e. e -> e> <Int>)",
		"(Inst(Inst c<T (U a)>)<(a->b)->(c)>)": "(Inst (Inst c <T (U a)>) <(a -> b) -> c>)",
		"<forall a.forall b.?3>":               "<forall a b. ?3>",
		"<((a))>":                              "<a>",
	} {
		if got := parsed(t, s).Print(); got != want {
			t.Errorf("%q is printed %q, not %q", s, got, want)
		}
	}
}

// none are texts at whose begin no coercion stands, or one that ends too soon.
var none = []string{
	"", " ", "# c", "T", "1", "?1", "in", "()", "(c)", "(<a>)", "((Sym c))", "( )", "(", ")", "<", ">", "<>", "< >",
	"<a", "<a b>", "<a -> >", "<(a>", "<a)>", "<forall a>", "<<a>>", "<1>", "<Sym c",
	"(Sym)", "(Sym c d)", "(Sym c", "((Sym c)", "Sym c", "Sym", "(Sym (c))", "(Sym T)", "(Sym 1)", "(Sym ?1)", "(Sym a -> b)",
	"(sym c)", "(Sy c)", "(Symm c)", "(SYM c)", "(Var c)", "(Refl <a>)", "(T c)", "(T)", "(c d)", "(1)",
	"(Trans)", "(Trans c)", "(Trans c d e)", "(Trans c T)", "(Trans c, d)",
	"(Con)", "(Con c)", "(Con t c)", "(Con 1)", "(Con <T>)", "(Con (T))", "(Con T U)", "(Con T c U)", "(Con T 1)", "(Con T c", "(Con T (c))", "(Con T <a) c>", "(Con T c d > e)",
	"(Fun)", "(Fun c)", "(Fun c d e)", "(Fun a -> b)", "(Fun T c d)",
	"(All)", "(All a)", "(All c)", "(All A c)", "(All 1 c)", "(All (a) c)", "(All a b c)", "(All a. c)", "(All <a> c)", "(All ?1 c)", "(All in c)", "(All a T)",
	"(Nth)", "(Nth 0)", "(Nth c)", "(Nth c 0)", "(Nth a c)", "(Nth ?0 c)", "(Nth 0 1 c)", "(Nth 0 c d)", "(Nth (0) c)", "(Nth 0 T)",
	"(Inst)", "(Inst c)", "(Inst <a>)", "(Inst c d)", "(Inst c T)", "(Inst c (Sym d))", "(Inst <a> c)", "(Inst c <a> <b>)", "(Inst c d <a>)", "(Inst c <>)", "(Inst c (a))", "(Inst c <a)", "(Inst c <a b>)",
}

// more are texts at whose begin a coercion stands, with something behind it that is not in it.
var more = []string{"a>", "<c>>", "c d", "c <a>", "<a> <b>", "(Sym c) d", "(Sym c))", "c ;", "c ~ d", "c (Sym", "(Con T) T"}

// E1: texts that are no coercion, each with its error and nothing else.
func TestNoCoercion(t *testing.T) {
	for _, s := range slices.Concat(none, more) {
		isRefused(t, s, api.ErrCo)
		isRefused(t, "(Trans c "+s+" )", api.ErrCo)
	}
	for _, s := range []string{"-", "(Sym -)", "(Nth 00 c)", "(Nth 01 c)", "(Nth 1000000 c)", "(Nth -1 c)", "<a|b>", "<?x>", "<?>", "abcdefghijklmnopq", "(Con Abcdefghijklmnopq)", "(Sym c)\r", "\xff", "(Sym c) %", "Sym _"} {
		isRefused(t, s, api.ErrLex)
	}
}

// E1: 4000 bytes are read, 4001 are too long, whatever they are; R2: the errors come in this order.
func TestInputLimit(t *testing.T) {
	long := "(Con T" + strings.Repeat(" ab", 1331) + ")"
	if len(long) != api.MaxInput {
		t.Fatal(len(long))
	}
	if c := parsed(t, long); len(c.Kids) != 1331 || c.Print() != long {
		t.Errorf("%d kids", len(c.Kids))
	}
	isRefused(t, long+" ", api.ErrLong)
	isRefused(t, "c"+strings.Repeat(" ", api.MaxInput), api.ErrLong)
	isRefused(t, strings.Repeat("-", api.MaxInput+1), api.ErrLong)
	isRefused(t, strings.Repeat("-", api.MaxInput), api.ErrLex)
	isRefused(t, strings.Repeat(" ", api.MaxInput), api.ErrCo)
	isRefused(t, strings.Repeat("(Sym ", api.MaxInput/5), api.ErrCo)
}

// nested are texts of coercions that stand within one another by one way, with all depths from 1 on.
var nested = map[string]func(deep int) string{
	"Sym":        func(deep int) string { return strings.Repeat("(Sym ", deep-1) + "c" + strings.Repeat(")", deep-1) },
	"Sym of <a>": func(deep int) string { return strings.Repeat("(Sym ", deep-1) + "<a>" + strings.Repeat(")", deep-1) },
	"Trans left": func(deep int) string {
		return strings.Repeat("(Trans ", deep-1) + "c" + strings.Repeat(" <a>)", deep-1)
	},
	"Trans right": func(deep int) string { return strings.Repeat("(Trans c ", deep-1) + "d" + strings.Repeat(")", deep-1) },
	"Con": func(deep int) string {
		return strings.Repeat("(Con T c ", deep-1) + "(Con T)" + strings.Repeat(" c)", deep-1)
	},
	"Fun":  func(deep int) string { return strings.Repeat("(Fun c ", deep-1) + "<a>" + strings.Repeat(")", deep-1) },
	"All":  func(deep int) string { return strings.Repeat("(All a ", deep-1) + "<a>" + strings.Repeat(")", deep-1) },
	"Nth":  func(deep int) string { return strings.Repeat("(Nth 0 ", deep-1) + "c" + strings.Repeat(")", deep-1) },
	"Inst": func(deep int) string { return strings.Repeat("(Inst ", deep-1) + "c" + strings.Repeat(" <a>)", deep-1) },
}

// E1: 50 coercions within one another are read, 51 are too deep; R2: ErrCo comes ahead of ErrDeep.
func TestDepthLimit(t *testing.T) {
	for way, text := range nested {
		for deep := 1; deep <= api.MaxDepth; deep++ {
			if s := text(deep); parsed(t, s).Print() != s {
				t.Errorf("%s %d", way, deep)
			}
		}
		for deep := api.MaxDepth + 1; deep <= api.MaxDepth+9; deep++ {
			isRefused(t, text(deep), api.ErrDeep)
		}
		isRefused(t, text(api.MaxDepth+1)+" )", api.ErrCo)
		isRefused(t, "(Sym "+text(api.MaxDepth+1), api.ErrCo)
		isRefused(t, text(api.MaxDepth+1)+" -", api.ErrLex)
	}
}

// E1: likewise types in a coercion, which do not count as coercions.
func TestTypeDepthLimit(t *testing.T) {
	for deep, want := range map[int]api.Errno{api.MaxDepth: api.OK, api.MaxDepth + 1: api.ErrDeep, api.MaxDepth + 30: api.ErrDeep} {
		x := "<" + strings.Repeat("T (", deep-1) + "a" + strings.Repeat(")", deep-1) + ">"
		sym := api.MaxDepth - 2
		for _, s := range []string{x, "(Inst c " + x + ")", "(Inst " + x + " <a>)", "(Con T c " + x + " d)", "(All a (Fun <a> (Inst c " + x + ")))", strings.Repeat("(Sym ", sym) + "(Inst c " + x + ")" + strings.Repeat(")", sym)} {
			if _, e := coerce.Parse(s); e != want {
				t.Errorf("Parse(%q): %v", s, e)
			}
		}
	}
}

// E1: Read goes as far as it can, and answers what stands behind the coercion.
func TestRead(t *testing.T) {
	for s, want := range map[string][2]string{
		"c":                           {"c", ""},
		"c d":                         {"c", "d"},
		"c )":                         {"c", ")"},
		"<a> <b>":                     {"<a>", "< b >"},
		"<T a > > -> b":               {"<T a>", "> -> b"},
		"(Sym c) <a>":                 {"(Sym c)", "< a >"},
		"(Con T c <a>) d )":           {"(Con T c <a>)", "d )"},
		"(Con T) (Con U)":             {"(Con T)", "( Con U )"},
		"(Inst c <a>) <b>":            {"(Inst c <a>)", "< b >"},
		"(All a (Nth 1 <a>)) ; ( Sym": {"(All a (Nth 1 <a>))", "; ( Sym"},
		"(Trans c d) , (Trans c d)":   {"(Trans c d)", ", ( Trans c d )"},
		"(Fun c <forall a . a>) } a":  {"(Fun c <forall a. a>)", "} a"},
	} {
		l := tokens(t, s)
		c, rest, ok := coerce.Read(l)
		if !ok || c.Print() != want[0] || texts(rest) != want[1] || !slices.Equal(rest, l[len(l)-len(rest):]) {
			t.Errorf("Read(%q) answers %q, %q, %v", s, c.Print(), texts(rest), ok)
		}
	}
}

// E1, R3: where what must stand does not, Read answers false and nothing else, though what stands ahead would be a coercion.
func TestReadRefuses(t *testing.T) {
	for _, s := range none {
		for _, s := range []string{s, "(Trans c " + s + " )"} {
			if c, rest, ok := coerce.Read(tokens(t, s)); ok || len(rest) != 0 || !reflect.DeepEqual(c, coerce.Co{}) {
				t.Errorf("Read(%q) answers %+v, %v, %v", s, c, rest, ok)
			}
		}
	}
	for _, s := range more {
		if _, rest, ok := coerce.Read(tokens(t, s)); !ok || len(rest) == 0 {
			t.Errorf("Read(%q) answers %v, %v", s, rest, ok)
		}
	}
	for _, l := range [][]api.Token{nil, {}} {
		if c, rest, ok := coerce.Read(l); ok || len(rest) != 0 || !reflect.DeepEqual(c, coerce.Co{}) {
			t.Error(c, rest, ok)
		}
	}
}

// E1: how many coercions stand within one another does not matter to Read.
func TestReadDeep(t *testing.T) {
	for way, text := range nested {
		for _, deep := range []int{api.MaxDepth, api.MaxDepth + 1, 200} {
			s := text(deep)
			c, rest, ok := coerce.Read(tokens(t, s+" ;"))
			if !ok || texts(rest) != ";" || c.Print() != s {
				t.Errorf("%s %d: %v", way, deep, ok)
			}
		}
	}
}

// R1: tokens that no text has are read, or not, without a panic; a word is one by its kind, not by its text alone.
func TestOddTokens(t *testing.T) {
	open, end := api.Token{Kind: api.TokSign, Text: "("}, api.Token{Kind: api.TokSign, Text: ")"}
	c := api.Token{Kind: api.TokVar, Text: "c"}
	for kind := -1; kind <= 7; kind++ {
		for _, s := range []string{"", "0", "99999999999999999999", "x", "(", ")", "<", ">", "c", "T", "Sym", "Con", "All", "Nth", "Inst"} {
			x := api.Token{Kind: kind, Text: s}
			for _, l := range [][]api.Token{{x}, {open, x}, {open, x, end}, {open, x, c}, {open, x, x, c, end}, {open, x, x, x, x, x, end}} {
				coerce.Read(l)
			}
			if _, _, ok := coerce.Read([]api.Token{open, x, c, end}); ok != (kind == api.TokCon && s == "Sym") {
				t.Errorf("%+v: %v", x, ok)
			}
		}
	}
	for kind := 0; kind <= 6; kind++ {
		l := []api.Token{open, {Kind: api.TokCon, Text: "Nth"}, {Kind: kind, Text: "0"}, c, end}
		if _, _, ok := coerce.Read(l); ok != (kind == api.TokNum) {
			t.Errorf("Nth with a token of the kind %d: %v", kind, ok)
		}
	}
}

// R4, R5: no kids are no kids, whether there is a list or not; what is handed in stays as it was.
func TestNothingChanges(t *testing.T) {
	if got := (coerce.Co{Kind: api.CoCon, Name: "T", Kids: []coerce.Co{}}).Print(); got != "(Con T)" {
		t.Error(got)
	}
	l := tokens(t, "(Con T c (Inst <a -> b> <a>)) ; d")
	was := slices.Clone(l)
	coerce.Read(l)
	if !slices.Equal(l, was) {
		t.Error("tokens are changed")
	}
	const gs, s = "c: forall a. a -> b ~ forall b. b -> T a, d: T a ~ T x0", "(Trans (Inst (All a (Inst c <a>)) <a -> x0>) (Fun (Fun (Nth 0 d) <x0>) (All b <b>)))"
	g, c := givens(t, gs), parsed(t, s)
	for range 20 {
		coerce.Says(g, c)
		c.Print()
	}
	if !reflect.DeepEqual(g, givens(t, gs)) || !reflect.DeepEqual(c, parsed(t, s)) {
		t.Error("what was handed in is changed")
	}
}
