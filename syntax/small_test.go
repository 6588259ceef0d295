package syntax_test

import (
	"math/rand"
	"reflect"
	"regexp"
	"slices"
	"strings"
	"testing"

	"savant/api"
	"savant/lex"
	"savant/syntax"
	"savant/types"
)

// isReadAsTold asks Parse and ParseExpr for what the grammar says of tokens, and tells how many of the two they are. Of what is too deep nothing is asked.
func isReadAsTold(t *testing.T, l []string) int {
	t.Helper()
	s := strings.Join(l, " ")
	program, e := syntax.Parse(s)
	x, e2 := syntax.ParseExpr(s)
	return isOneAsTold(t, s, "program", chapter.Readings("program", l), trees(program), e) + isOneAsTold(t, s, "expr", chapter.Readings("expr", l), tree(x), e2)
}

func isOneAsTold(t *testing.T, s, piece string, want []string, got string, e api.Errno) int {
	t.Helper()
	switch {
	case len(want) > 1:
		t.Errorf("%q is a %s in more than one way", s, piece)
	case len(want) == 0 && e != api.ErrSyntax:
		t.Errorf("%q is read as the %s %s, %v", s, piece, got, e)
	case len(want) == 1 && e != api.ErrDeep && (e != api.OK || got != want[0]):
		t.Errorf("%q is read as the %s %s, %v, not %s", s, piece, got, e, want[0])
	}
	return len(want)
}

// H1: of all short lists of tokens, alone and behind what a piece begins with, those are read that the grammar writes, and as it says.
func TestShortTexts(t *testing.T) {
	for _, c := range []struct {
		begin, words string
		room, least  int
	}{
		{"", `x K ?1 1 \ -> let = in case of { } ( ) : ; data forall .`, 4, 50},
		{"", `x K ( ) :`, 6, 300},
		{"", `x \ -> ( ) :`, 6, 40},
		{"", `x K : = ;`, 6, 100},
		{"", `data x K { : } ;`, 5, 10},
		{"let x", "x = in : K", 6, 15},
		{"let x = x", "x = in K ;", 6, 50},
		{"case", "x of { } K", 6, 10},
		{"case x of {", "x K -> } ;", 6, 10},
		{"data K x {", "K : } ;", 8, 7},
		{"( x", "x : K ) ->", 6, 50},
	} {
		begin, words, read := strings.Fields(c.begin), strings.Fields(c.words), 0
		var try func(l []string)
		try = func(l []string) {
			read += isReadAsTold(t, l)
			for _, w := range words {
				if len(l) < len(begin)+c.room {
					try(append(l, w))
				}
			}
		}
		try(begin)
		if read < c.least {
			t.Errorf("%q, %q: only %d are read", c.begin, c.words, read)
		}
	}
}

// maker makes programs, the same ones each time.
type maker struct{ *rand.Rand }

func newMaker(seed int64) maker { return maker{rand.New(rand.NewSource(seed))} }

func pick[T any](m maker, l ...T) T { return l[m.Intn(len(l))] }

func some[T any](m maker, most int, one func() T) []T {
	var l []T
	for range m.Intn(most + 1) {
		l = append(l, one())
	}
	return l
}

func (m maker) variable() string { return pick(m, "x", "y", "f", "a_long_name_16bs") }

func (m maker) con() string { return pick(m, "Z", "S", "K", "A_long_name_16bs") }

func (m maker) typ(room int) types.Type {
	t, _ := types.Parse(pick(m, "a", "N", "?1"))
	if room == 0 || m.Intn(4) == 0 {
		return t
	}
	switch m.Intn(3) {
	case 0:
		return types.Type{Kind: api.Con, Name: "T", Args: []types.Type{m.typ(room - 1), t}}
	case 1:
		return types.Type{Kind: api.Fun, Args: []types.Type{m.typ(room - 1), m.typ(room - 1)}}
	}
	return types.Type{Kind: api.All, Name: m.variable(), Args: []types.Type{m.typ(room - 1)}}
}

func (m maker) expr(room int) syntax.Expr {
	if room == 0 || m.Intn(6) == 0 {
		return pick(m, v(m.variable()), con(m.con()))
	}
	one := func() syntax.Expr { return m.expr(room - 1) }
	switch m.Intn(7) {
	case 0:
		return lam(m.variable(), one())
	case 1:
		return let(m.variable(), one(), one())
	case 2:
		return told(m.variable(), m.typ(2), one(), one())
	case 3:
		return choice(one(), some(m, 3, func() syntax.Alt { return alt(one(), m.con(), some(m, 3, m.variable)...) })...)
	case 4:
		return ann(one(), m.typ(2))
	}
	return app(one(), one())
}

func (m maker) decl(room int) syntax.Decl {
	switch m.Intn(4) {
	case 0:
		return syntax.Decl{Kind: api.DeclData, Name: m.con(), Params: some(m, 3, m.variable), Cons: some(m, 3, func() syntax.Con { return syntax.Con{Name: m.con(), T: m.typ(2)} })}
	case 1:
		return syntax.Decl{Kind: api.DeclSig, Name: m.variable(), T: m.typ(3)}
	}
	return syntax.Decl{Kind: api.DeclBind, Name: m.variable(), E: m.expr(room)}
}

// spaced puts tokens together with the blanks that stand in what is printed.
func spaced(l []string) string {
	return strings.NewReplacer("( ", "(", " )", ")", "{ ", "{", " }", "}", " ;", ";", `\ `, `\`, " .", ".").Replace(strings.Join(l, " "))
}

// H2, H3: what was written is read, and is spaced as the chapter asks.
func TestPrintIsRead(t *testing.T) {
	m := newMaker(1)
	for i := range 20000 {
		l := some(m, 3, func() syntax.Decl { return m.decl(i % 5) })
		s := syntax.Print(l)
		if len(s) > api.MaxInput {
			continue
		}
		if again, e := syntax.Parse(s); e != api.OK || trees(again) != trees(l) || syntax.Print(again) != s {
			t.Errorf("%s is printed %q, and that read as %s, %v", trees(l), s, trees(again), e)
		}
		if s != spaced(words(t, s)) {
			t.Errorf("%q is not %q", s, spaced(words(t, s)))
		}
		for _, d := range l {
			if text := d.E.Print(); d.Kind == api.DeclBind {
				isReadAgain(t, d.E, text)
			}
		}
	}
}

func isReadAgain(t *testing.T, x syntax.Expr, s string) {
	t.Helper()
	if again, e := syntax.ParseExpr(s); e != api.OK || !reflect.DeepEqual(again, x) {
		t.Errorf("%s is printed %q, and that read as %s, %v", tree(x), s, tree(again), e)
	}
}

// H2: what is printed has no parentheses that may be left out; and all that must stand do, as it is read again.
func TestNoParenthesesTooMany(t *testing.T) {
	met := 0
	for _, x := range small(3) {
		s := x.Print()
		isReadAgain(t, x, s)
		l := words(t, s)
		for i := range l {
			if l[i] != "(" {
				continue
			}
			met++
			if y, e := syntax.ParseExpr(strings.Join(without(l, i), " ")); e == api.OK && tree(y) == tree(x) {
				t.Errorf("%q has parentheses that may be left out, the ones at token %d", s, i)
			}
		}
	}
	if met < 1000 {
		t.Error(met)
	}
}

// small are all expressions of at most so many within one another, of few names, with one type.
func small(deep int) []syntax.Expr {
	if deep == 1 {
		return []syntax.Expr{v("x"), con("K")}
	}
	n := types.Type{Kind: api.Con, Name: "N"}
	less := small(deep - 1)
	l := slices.Clone(less)
	for _, x := range less {
		l = append(l, lam("x", x), ann(x, n), choice(x))
		for _, y := range less {
			l = append(l, app(x, y), let("x", x, y), told("x", n, x, y), choice(x, alt(y, "K")), choice(v("x"), alt(x, "K", "x"), alt(y, "Z")))
		}
	}
	return l
}

// without are tokens but for the parenthesis at i and the one that closes it.
func without(l []string, i int) []string {
	open := 0
	for j := i; j < len(l); j++ {
		switch l[j] {
		case "(":
			open++
		case ")":
			open--
		}
		if open == 0 {
			return slices.Concat(l[:i], l[i+1:j], l[j+1:])
		}
	}
	return l
}

// H1: texts of programs in which tokens are left out, laid in, or changed are read as the grammar says, or not.
func TestChangedTexts(t *testing.T) {
	m := newMaker(2)
	met := [3]int{}
	for range 20000 {
		l := words(t, syntax.Print(some(m, 2, func() syntax.Decl { return m.decl(2) })))
		for range m.Intn(3) {
			if len(l) == 0 {
				break
			}
			at := m.Intn(len(l))
			with := []string{pick(m, `\`, "->", "let", "in", "=", ":", ";", "case", "of", "{", "}", "(", ")", "x", "K", "data", "forall", "?1")}
			l = slices.Concat(l[:at], with[:m.Intn(2)], l[at+m.Intn(2):])
		}
		if len(l) > 0 && len(l) < 40 {
			met[isReadAsTold(t, l)]++
		}
	}
	if met[0] < 3000 || met[1] < 3000 {
		t.Error(met)
	}
}

// H1: so many expressions are in one as its tree's text has in parentheses, and so deep it is as these stand within one another.
func TestSizesOfMany(t *testing.T) {
	m := newMaker(3)
	inTypes := regexp.MustCompile(`<[^>]*>`)
	for i := range 5000 {
		x := m.expr(i % 6)
		s := inTypes.ReplaceAllString(strings.ReplaceAll(tree(x), "->", ""), "")
		deepest, open := 0, 0
		for _, c := range s {
			switch c {
			case '(':
				open++
			case ')':
				open--
			}
			deepest = max(deepest, open)
		}
		if x.Size() != strings.Count(s, "(") || x.Depth() != deepest {
			t.Errorf("%s: %d, %d", s, x.Size(), x.Depth())
		}
	}
}

// H1, H3: whatever the texts are, they are read as the grammar says, or not; and what was read is read again.
func FuzzParse(f *testing.F) {
	for _, s := range []string{"", `data N {Z : N; S : N -> N}; two = S (S Z)`, `f : N -> N; f = \x -> case (x) of {Z -> x; S y -> (f y : N)}`, `k = let x : forall a. a = y in (let z = x in z) x`, "data P a b {} # remark\n;f=?1 $", `\x -> (x y : T ?1) K`} {
		f.Add(s)
	}
	f.Fuzz(func(t *testing.T, s string) {
		if l, e := syntax.Parse(s); e == api.OK {
			text := syntax.Print(l)
			if again, e := syntax.Parse(text); len(text) <= api.MaxInput && (e != api.OK || trees(again) != trees(l)) {
				t.Errorf("%q is read as %s, and that again as %s, %v", s, trees(l), trees(again), e)
			}
		}
		if x, e := syntax.ParseExpr(s); e == api.OK && len(x.Print()) <= api.MaxInput {
			isReadAgain(t, x, x.Print())
		}
		// The reference takes too long where there are many tokens.
		if l, _, e := lex.Scan(s); e == api.OK && len(l) > 0 && len(l) < 40 {
			isReadAsTold(t, words(t, s))
		}
	})
}
