package solve_test

import (
	"reflect"
	"slices"
	"strings"
	"testing"

	"savant/api"
	"savant/coerce"
	"savant/lex"
	"savant/solve"
	"savant/types"
)

// isPrinted asks whether a text is read, and written so; and what was written is read as the same.
func isPrinted(t *testing.T, s, want string) {
	t.Helper()
	p := parsed(t, s)
	if got := p.Print(); got != want {
		t.Errorf("%q is written %q, not %q", s, got, want)
	}
	if again, e := solve.Parse(want); e != api.OK || !reflect.DeepEqual(again, p) {
		t.Errorf("%q is not read as what was written: %v", want, e)
	}
}

// G1: what is read is what the text says; items may stand in any order, and each list has its own.
func TestParse(t *testing.T) {
	a := v("a")
	within := solve.Problem{New: []int{3}, Wants: []solve.Want{{L: a, R: meta(3)}}, Inner: []solve.Inner{{}}}
	want := solve.Problem{
		New:   []int{1, 0, 999999},
		Wants: []solve.Want{{L: meta(1), R: con("T", meta(0))}, {L: all("b", fun(v("b"), v("c"))), R: con("Int")}, {L: meta(1), R: meta(1)}},
		Inner: []solve.Inner{
			{Names: []string{"a", "b"}, Givens: []coerce.Given{{Name: "c", L: a, R: fun(con("Int"), a)}, {Name: "a", L: meta(1), R: v("b")}}, P: within},
			{Names: []string{"d"}},
			{Givens: []coerce.Given{{Name: "e", L: con("T"), R: all("x", v("x"))}}},
		},
	}
	for _, s := range []string{
		"?1; ?0; ?999999; ?1 ~ T ?0; forall b. b -> c ~ Int; ?1 ~ ?1; [a b, c: a ~ Int -> a, a: ?1 ~ b] {?3; a ~ ?3; [] {}} [d] {} [, e: T ~ forall x. x] {}",
		"?1;?0;[a b,c:a~Int->a,a:?1~b]{[]{}a~?3;?3;}?1~T ?0;[d]{}forall b.b->c~Int;?999999;[,e:T~forall x.x]{}?1~?1;",
		"[a b,c:(a)~Int->a,a:?1~(b)]{?3;[]{}a~?3;}[d]{} # a remark; ?7;\n?1; ?1~(T ((?0))); [,e:T~(forall x. x)]{}?0;(forall b.(b->c)) ~ Int; (?1) ~ ?1; ?999999;",
	} {
		if got, e := solve.Parse(s); e != api.OK || !reflect.DeepEqual(got, want) {
			t.Errorf("%q is read as %q, %v", s, got.Print(), e)
		}
	}
	for _, s := range []string{"", " \n", "# ?1"} {
		if got, e := solve.Parse(s); e != api.OK || !reflect.DeepEqual(got, solve.Problem{}) {
			t.Errorf("%q is read as %q, %v", s, got.Print(), e)
		}
	}
}

// G1: how problems are written.
func TestPrint(t *testing.T) {
	for s, want := range map[string]string{
		"":                                  "",
		"?1;":                               "?1;",
		"?1;?0;":                            "?1; ?0;",
		"a~b;":                              "a ~ b;",
		"a~b;?1;":                           "?1; a ~ b;",
		"(?1)~(T(a));":                      "?1 ~ T a;",
		"a->b~(forall a.forall b.a->b)->c;": "a -> b ~ (forall a b. a -> b) -> c;",
		"[]{}":                              "[] {}",
		"[]{}[]{}?1;":                       "?1; [] {} [] {}",
		"[a]{}":                             "[ a ] {}",
		"[a b]{?1;}":                        "[ a b ] { ?1; }",
		"[]{a~b;?1;}":                       "[] { ?1; a ~ b; }",
		"[,c:a~b]{}":                        "[, c : a ~ b ] {}",
		"[a,c:a~Int]{a->a~Int->a;}":         "[ a, c : a ~ Int ] { a -> a ~ Int -> a; }",
		"[a b,c:a~T b,d:b~U]{[]{[e]{}}}":    "[ a b, c : a ~ T b, d : b ~ U ] { [] { [ e ] {} } }",
		"[]{[]{}}a~b;[x]{?2;}?1;U~?1;":      "?1; a ~ b; U ~ ?1; [] { [] {} } [ x ] { ?2; }",
	} {
		isPrinted(t, s, want)
	}
}

// R4: a nil list and an empty one are written alike.
func TestPrintNilAndEmpty(t *testing.T) {
	empty := solve.Problem{New: []int{}, Wants: []solve.Want{}, Inner: []solve.Inner{}}
	p := solve.Problem{Inner: []solve.Inner{{Names: []string{}, Givens: []coerce.Given{}, P: empty}, {}}}
	if got := p.Print(); got != "[] {} [] {}" || empty.Print() != "" {
		t.Error(got)
	}
}

// isRefused asks whether a text is not read, and why.
func isRefused(t *testing.T, s string, want api.Errno) {
	t.Helper()
	if p, e := solve.Parse(s); e != want || !reflect.DeepEqual(p, solve.Problem{}) {
		t.Errorf("%q is read as %q, %v", s, p.Print(), e)
	}
}

// G1: texts that are no problem.
func TestNoProblem(t *testing.T) {
	for _, s := range []string{
		";", "?1", "?1;;", "?1;?2", "(?1);", "?1 ?2;", "?1,", "a;", "a ~ b", "a ~ ;", "~ b;", "a ~ b ~ c;", "a = b;", "a b ~ c;", "T;", "?1 a ~ b;", "a ~ b,",
		"[", "]", "[]", "{}", "{?1;}", "[] {", "[] }", "[] {} }", "} [] {", "[] {} {}", "[a] [b] {}", "[[a]] {}", "[] {?1}", "[] {a ~ b}", "[a] {;}",
		"[T] {}", "[?1] {}", "[1] {}", "[forall] {}", "[a, b] {}", "[a,] {}", "[a,,c: a ~ b] {}", "[a c: a ~ b] {}", "[c: a ~ b] {}", "[a, c: a] {}", "[a, c: a ~] {}",
		"[a, c a ~ b] {}", "[a, C: a ~ b] {}", "[a, c: a ~ b d: a ~ b] {}", "[a, c: a ~ b;] {}", "[a, c: a ~ b, b] {}", "[a, ?1: a ~ b] {}", "[a; c: a ~ b] {}", "[a, c: a b ~ b] {}",
		"[a, c: forall. a ~ b] {}", "[a} {]", "(a ~ b);", "?1; [a] {?2; a ~ ?2;} in", "a ~ forall b;", "a ~ (b;", "a ~ b);", "?1; 1;",
	} {
		isRefused(t, s, api.ErrProblem)
	}
}

// G1: chapter 1's errors come first.
func TestScansErrors(t *testing.T) {
	isRefused(t, "?1; a - b;", api.ErrLex)
	isRefused(t, "?x;", api.ErrLex)
	isRefused(t, "a ~ ; $", api.ErrLex)
	isRefused(t, strings.Repeat("[] {", 30)+"$", api.ErrLex)
	const all = api.MaxInput
	isPrinted(t, "?1;"+strings.Repeat(" ", all-3), "?1;")
	isRefused(t, "?1;"+strings.Repeat(" ", all-2), api.ErrLong)
	isRefused(t, strings.Repeat("$", all+1), api.ErrLong)
	isRefused(t, strings.Repeat("[] {", all), api.ErrLong)
}

// nested is a problem within so many others.
func nested(brackets, within string, others int) string {
	return strings.Repeat(brackets+" {", others) + within + strings.Repeat("}", others)
}

// deepType is a type so deep.
func deepType(depth int) string {
	return strings.Repeat("T (", depth-1) + "a" + strings.Repeat(")", depth-1)
}

// G1: how many problems may stand within one another, and how deep types may be.
func TestTooDeep(t *testing.T) {
	if p, e := solve.Parse(nested("[]", "?1;", api.MaxNest-1)); e != api.OK || strings.Count(p.Print(), "{") != api.MaxNest-1 {
		t.Error(e)
	}
	isRefused(t, nested("[]", "", api.MaxNest), api.ErrDeep)
	isRefused(t, nested("[]", "?1;", api.MaxNest), api.ErrDeep)
	isRefused(t, "[] {} "+nested("[]", "", api.MaxNest)+" ?1;", api.ErrDeep)
	isRefused(t, nested("[]", nested("[]", "", 5)+"[] {}"+nested("[]", "", 6), api.MaxNest-6), api.ErrDeep)
	for _, s := range []string{"$ ~ a;", "a ~ $;", "?1; a ~ b; $ ~ Int; [] {}", "[a, c: $ ~ a] {}", "[a, c: a ~ $] {}", "[a, c: a ~ b, d: a ~ $] {?1;}", "[] {[b] {} [] {$ ~ a;}}", nested("[]", "[, c: $ ~ a] {}", api.MaxNest-2), "[] {} [] {?1; b ~ a -> $;}"} {
		room := api.MaxDepth
		if strings.Contains(s, "->") {
			room--
		}
		if _, e := solve.Parse(strings.Replace(s, "$", deepType(room), 1)); e != api.OK {
			t.Errorf("%q: %v", s, e)
		}
		isRefused(t, strings.Replace(s, "$", deepType(room+1), 1), api.ErrDeep)
	}
	isRefused(t, nested("[]", "?1", api.MaxNest), api.ErrProblem)
	isRefused(t, deepType(api.MaxDepth+1)+" ~ a", api.ErrProblem)
	isRefused(t, nested("[]", "", api.MaxNest)+"}", api.ErrProblem)
}

// G1: of all short lists of tokens those are read that the grammar writes, and what is read has all of them.
func TestShortLists(t *testing.T) {
	const most = 5
	read := 0
	var words []string
	var from func()
	from = func() {
		s := strings.Join(words, " ")
		_, e := solve.Parse(s)
		if isOne := isProblem(words); isOne != (e == api.OK) {
			t.Errorf("%q: %v", s, e)
		} else if isOne {
			read++
			isWhole(t, s)
		}
		if len(words) == most {
			return
		}
		for _, w := range []string{"?1", "a", "T", "->", "~", ";", ",", ":", "[", "]", "{", "}"} {
			words = append(words, w)
			from()
			words = words[:len(words)-1]
		}
	}
	from()
	if read < 30 {
		t.Error(read)
	}
}

// G1: likewise of texts of problems in which a token, or two, is left out, or laid in, or another one.
func TestChangedTexts(t *testing.T) {
	m := newMaker(8)
	met := map[api.Errno]int{}
	for i := range 20000 {
		words := tokens(t, m.whole(i%3).Print())
		if len(words) == 0 || len(words) > 60 {
			continue
		}
		for range m.Intn(3) {
			at := m.Intn(len(words))
			with := []string{pick(m, "?1", "a", "T", "->", "~", ";", ",", ":", "[", "]", "{", "}", "(", ")", "forall", ".", "1")}
			words = slices.Concat(words[:at], with[:m.Intn(2)], words[at+m.Intn(2):])
			if len(words) == 0 {
				break
			}
		}
		s := strings.Join(words, " ")
		p, e := solve.Parse(s)
		met[e]++
		if isOne := isProblem(words); isOne != (e == api.OK) {
			t.Errorf("%q is read as %q, %v", s, p.Print(), e)
		}
	}
	if met[api.OK] < 2000 || met[api.ErrProblem] < 2000 {
		t.Error(met)
	}
}

// isWhole asks whether what is read of a text has all its tokens, and is read again from its own text.
func isWhole(t *testing.T, s string) {
	t.Helper()
	p := parsed(t, s)
	again := parsed(t, p.Print())
	if !reflect.DeepEqual(again, p) || !slices.Equal(slices.Sorted(slices.Values(tokens(t, p.Print()))), slices.Sorted(slices.Values(tokens(t, s)))) {
		t.Errorf("%q is written %q", s, p.Print())
	}
}

// tokens are the texts of those of a text.
func tokens(t *testing.T, s string) []string {
	t.Helper()
	l, _, e := lex.Scan(s)
	if e != api.OK {
		t.Fatalf("%q: %v", s, e)
	}
	var words []string
	for _, x := range l {
		words = append(words, x.Text)
	}
	return words
}

// isProblem goes by the grammar: which ends a piece may have that begins at a place is found by trying all of them.
func isProblem(words []string) bool {
	return slices.Contains(endsOf(words, 0, "problem"), len(words))
}

// rules are what a piece may be; `x*` is any number of x.
var rules = map[string][]string{
	"problem": {"item*"},
	"item":    {"meta ;", "type ~ type ;", "[ var* given* ] { problem }"},
	"given":   {", var : type ~ type"},
	"type":    {"forall var var* . type", "app -> type", "app"},
	"app":     {"con atom*", "atom"},
	"atom":    {"var", "meta", "con", "( type )"},
}

// isToken tells whether a word is one that a rule names.
func isToken(word, piece string) bool {
	first := word[0]
	switch piece {
	case "var":
		return 'a' <= first && first <= 'z' && word != "forall"
	case "meta":
		return first == '?'
	case "con":
		return 'A' <= first && first <= 'Z'
	}
	return word == piece
}

func endsOf(words []string, at int, piece string) []int {
	var ends []int
	if many, ok := strings.CutSuffix(piece, "*"); ok {
		ends = append(ends, at)
		for _, end := range endsOf(words, at, many) {
			ends = append(ends, endsOf(words, end, piece)...)
		}
		return ends
	}
	if rules[piece] == nil {
		if at < len(words) && isToken(words[at], piece) {
			ends = append(ends, at+1)
		}
		return ends
	}
	for _, rule := range rules[piece] {
		now := []int{at}
		for _, part := range strings.Fields(rule) {
			var next []int
			for _, place := range now {
				next = append(next, endsOf(words, place, part)...)
			}
			slices.Sort(next)
			now = slices.Compact(next)
		}
		ends = append(ends, now...)
	}
	return ends
}

// G1: what was written is read, of many problems.
func TestPrintIsRead(t *testing.T) {
	m := newMaker(7)
	for i := range 5000 {
		p := m.whole(i % 4)
		if len(p.Print()) <= api.MaxInput {
			isPrinted(t, p.Print(), p.Print())
			if again := parsed(t, p.Print()); !reflect.DeepEqual(withoutEmpty(again), withoutEmpty(p)) {
				t.Errorf("%q is read otherwise", p.Print())
			}
		}
	}
}

// withoutEmpty is p with nil in the places of lists that are empty.
func withoutEmpty(p solve.Problem) solve.Problem {
	q := solve.Problem{New: append([]int(nil), p.New...)}
	for _, w := range p.Wants {
		q.Wants = append(q.Wants, solve.Want{L: nilArgs(w.L), R: nilArgs(w.R)})
	}
	for _, in := range p.Inner {
		k := solve.Inner{Names: append([]string(nil), in.Names...), P: withoutEmpty(in.P)}
		for _, g := range in.Givens {
			k.Givens = append(k.Givens, coerce.Given{Name: g.Name, L: nilArgs(g.L), R: nilArgs(g.R)})
		}
		q.Inner = append(q.Inner, k)
	}
	return q
}

func nilArgs(t types.Type) types.Type {
	var args []types.Type
	for _, a := range t.Args {
		args = append(args, nilArgs(a))
	}
	t.Args = args
	return t
}
