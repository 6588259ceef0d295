package fc_test

import (
	"math/rand"
	"reflect"
	"slices"
	"strings"
	"testing"

	"savant/api"
	"savant/coerce"
	"savant/fc"
	"savant/lex"
	"savant/types"
)

// isReadAsTold asks Parse and ParseTerm for what the grammar says of tokens, and tells how many of the two they are.
func isReadAsTold(t *testing.T, l []string) int {
	t.Helper()
	s := strings.Join(l, " ")
	d, e := fc.Parse(s)
	x, e2 := fc.ParseTerm(s)
	return isOneAsTold(t, s, "program", l, trees(d), e) + isOneAsTold(t, s, "term", l, tree(x), e2)
}

func isOneAsTold(t *testing.T, s, piece string, l []string, got string, e api.Errno) int {
	t.Helper()
	want := chapter.Readings(piece, l)
	switch {
	case len(want) > 1:
		t.Errorf("%q is a %s in more than one way", s, piece)
	case len(want) == 0 && e != api.ErrTerm:
		t.Errorf("%q is read as the %s %s, %v", s, piece, got, e)
	case len(want) == 1 && (e != api.OK || got != want[0]):
		t.Errorf("%q is read as the %s %s, %v, not %s", s, piece, got, e, want[0])
	}
	return len(want)
}

// L1: of all short lists of tokens, alone and between others, those are read that the grammar writes, and as it says.
func TestShortTexts(t *testing.T) {
	for _, c := range []struct {
		begin, words, end string
		room, least       int
	}{
		{"", `x K ?1 1 \ -> let = in case of { } ( ) : ; . ! @ ~ < > |>`, "", 3, 3},
		{"", `x K ( )`, "", 7, 20},
		{"(", `x K \ : . ! ->`, ")", 5, 6},
		{"(", `x ! . ( )`, ")", 6, 4},
		{"( x", `x @ ~ |> < > K`, ")", 4, 10},
		{"( K @", `x K ( ) ->`, ")", 5, 50},
		{"( K ~", `x < > ( ) Sym`, ")", 5, 3},
		{"( K |>", `x < K > ( )`, ")", 5, 3},
		{"( let x", `x : = in K`, ")", 6, 8},
		{"( let x : x = K", `x = in K ( )`, ")", 5, 3},
		{"( case", `x : of { } K`, ")", 6, 3},
		{"( case x : x of {", `x K -> } ;`, ")", 6, 7},
		{"( case x : x of { K", `x @ ~ -> K`, "} )", 6, 10},
		{"", `x : = ; K`, "", 6, 7},
		{"x : x = K", `x : = ; K`, "", 6, 5},
	} {
		begin, words, end, read := strings.Fields(c.begin), strings.Fields(c.words), strings.Fields(c.end), 0
		var try func(l []string)
		try = func(l []string) {
			read += isReadAsTold(t, slices.Concat(l, end))
			for _, w := range words {
				if len(l) < len(begin)+c.room {
					try(slices.Concat(l, []string{w}))
				}
			}
		}
		try(begin)
		if read < c.least {
			t.Errorf("%q, %q, %q: only %d are read", c.begin, c.words, c.end, read)
		}
	}
}

// maker makes terms, the same ones each time. Of each sort names are few: so they are often bound, and often met.
type maker struct{ *rand.Rand }

func newMaker(seed int64) maker { return maker{rand.New(rand.NewSource(seed))} }

func pick[T any](m maker, l ...T) T { return l[m.Intn(len(l))] }

func some[T any](m maker, most int, one func() T) []T {
	var l []T
	for range m.Intn(most + 1) {
		l = append(l, one())
	}
	return l
}

func (m maker) name() string { return pick(m, "a", "b", "c", "a_long_name_16bs") }

func (m maker) con() string { return pick(m, "K", "L", "A_long_name_16bs") }

func (m maker) typ(room int) types.Type {
	if room == 0 || m.Intn(4) == 0 {
		return pick(m, types.Type{Kind: api.Var, Name: m.name()}, types.Type{Kind: api.Con, Name: m.con()}, types.Type{Kind: api.Meta, N: m.Intn(3)})
	}
	one := func() types.Type { return m.typ(room - 1) }
	switch m.Intn(3) {
	case 0:
		return types.Type{Kind: api.Con, Name: m.con(), Args: some(m, 2, one)}
	case 1:
		return types.Type{Kind: api.Fun, Args: []types.Type{one(), one()}}
	}
	return types.Type{Kind: api.All, Name: m.name(), Args: []types.Type{one()}}
}

func (m maker) co(room int) coerce.Co {
	if room == 0 || m.Intn(5) == 0 {
		return pick(m, coerce.Co{Kind: api.CoVar, Name: m.name()}, coerce.Co{Kind: api.CoRefl, T: m.typ(2)})
	}
	one := func() coerce.Co { return m.co(room - 1) }
	c := coerce.Co{Kind: pick(m, api.CoSym, api.CoTrans, api.CoCon, api.CoFun, api.CoAll, api.CoNth, api.CoInst), Kids: []coerce.Co{one()}}
	switch c.Kind {
	case api.CoTrans, api.CoFun:
		c.Kids = append(c.Kids, one())
	case api.CoCon:
		c.Name, c.Kids = m.con(), some(m, 3, one)
	case api.CoAll:
		c.Name = m.name()
	case api.CoNth:
		c.N = m.Intn(3)
	case api.CoInst:
		c.T = m.typ(2)
	}
	return c
}

func (m maker) term(room int) fc.Term {
	if room == 0 || m.Intn(8) == 0 {
		return pick(m, v(m.name()), v(m.name()), con(m.con()))
	}
	one := func() fc.Term { return m.term(room - 1) }
	switch m.Intn(9) {
	case 0:
		return lam(m.name(), m.typ(2), one())
	case 1:
		return tyLam(m.name(), one())
	case 2:
		return tyApp(one(), m.typ(2))
	case 3:
		return coApp(one(), m.co(2))
	case 4:
		return cast(one(), m.co(2))
	case 5:
		return let(m.name(), m.typ(2), one(), one())
	case 6:
		return choice(one(), m.typ(2), some(m, 3, func() fc.Alt {
			return fc.Alt{Con: m.con(), Types: some(m, 2, m.name), Cos: some(m, 2, m.name), Vars: some(m, 2, m.name), Body: one()}
		})...)
	}
	return app(one(), one())
}

func (m maker) defs(most, room int) []fc.Def {
	return some(m, most, func() fc.Def { return fc.Def{Name: m.name(), T: m.typ(3), E: m.term(room)} })
}

// words are the texts of a text's tokens.
func words(t *testing.T, s string) []string {
	t.Helper()
	l, _, e := lex.Scan(s)
	if e != api.OK {
		t.Fatalf("Scan(%q): %v", s, e)
	}
	var w []string
	for _, x := range l {
		w = append(w, x.Text)
	}
	return w
}

// spaced puts tokens together with the blanks that stand in what is printed, but for those next to `@` and `~` in alternatives.
func spaced(l []string) string {
	return strings.NewReplacer("( ", "(", " )", ")", "{ ", "{", " }", "}", " ;", ";", `\ `, `\`, "! ", "!", " .", ".", "< ", "<", " >", ">").Replace(strings.Join(l, " "))
}

// L1, L3: what was written is read, and is spaced as the chapter asks.
func TestPrintIsRead(t *testing.T) {
	m := newMaker(1)
	unmarked := strings.NewReplacer("@ ", "@", "~ ", "~")
	for i := range 30000 {
		l := m.defs(3, i%6)
		s := fc.Print(l)
		if len(s) > api.MaxInput {
			continue
		}
		if again, e := fc.Parse(s); e != api.OK || !reflect.DeepEqual(again, l) || fc.Print(again) != s {
			t.Errorf("%s is printed %q, and that read as %s, %v", trees(l), s, trees(again), e)
		}
		if want := spaced(words(t, s)); unmarked.Replace(s) != unmarked.Replace(want) {
			t.Errorf("%q is not %q", s, want)
		}
		for _, d := range l {
			isReadAgain(t, d.E)
		}
	}
}

func isReadAgain(t *testing.T, x fc.Term) {
	t.Helper()
	if again, e := fc.ParseTerm(x.Print()); e != api.OK || !reflect.DeepEqual(again, x) {
		t.Errorf("%s is printed %q, and that read as %s, %v", tree(x), x.Print(), tree(again), e)
	}
}

// L1: texts in which tokens are left out, laid in, or changed are read as the grammar says, or not.
func TestChangedTexts(t *testing.T) {
	m := newMaker(2)
	met := [3]int{}
	for range 20000 {
		l := words(t, fc.Print(m.defs(2, 2)))
		if m.Intn(2) == 0 {
			l = words(t, m.term(2).Print())
		}
		for range m.Intn(3) {
			if len(l) == 0 {
				break
			}
			at := m.Intn(len(l))
			with := []string{pick(m, `\`, "!", "->", "let", "in", "=", ":", ";", ".", "@", "~", "|>", "case", "of", "{", "}", "(", ")", "<", ">", "x", "K", "forall", "?1")}
			l = slices.Concat(l[:at], with[:m.Intn(2)], l[at+m.Intn(2):])
		}
		if len(l) > 0 && len(l) < 40 {
			met[isReadAsTold(t, l)]++
		}
	}
	if met[0] < 3000 || met[1] < 3000 {
		t.Error(met)
	}
}

// isPutByTheLetter asks whether what is put into x is put as the reference says; and tells whether something is. What is put is named as nothing in a term that was made.
func isPutByTheLetter(t *testing.T, x fc.Term, sort, name string) bool {
	t.Helper()
	l := letter{sort: sort, name: name, t: typ(t, "T free (forall b. b -> free)"), co: co(t, "(Trans free <free>)"), u: term(t, "(free @ free)")}
	got, want, was := fc.Term{}, l.term(x, nil), tree(x)
	switch sort {
	case "type":
		got = x.PutType(name, l.t)
	case "proof":
		got = x.PutCo(name, l.co)
	case "var":
		got = x.PutVar(name, l.u)
	}
	if tree(got) != tree(want) {
		t.Errorf("%q with something in the place of the %s %s is %q, not %q", x.Print(), sort, name, got.Print(), want.Print())
	}
	if tree(x) != was {
		t.Errorf("%s is changed into %s", was, tree(x))
	}
	return tree(got) != was
}

// L2, L3: into many terms that is put which the chapter says; and often something, and often nothing.
func TestManyPuts(t *testing.T) {
	m := newMaker(3)
	for _, sort := range []string{"type", "proof", "var"} {
		met := map[bool]int{}
		for i := range 20000 {
			met[isPutByTheLetter(t, m.term(i%7), sort, m.name())]++
		}
		if met[true] < 2500 || met[false] < 2500 {
			t.Errorf("%s: %v", sort, met)
		}
	}
}

// L3: what is not free is not put: what was put gave way, and is not there to be put once more.
func TestWhatIsGone(t *testing.T) {
	m := newMaker(4)
	for range 20000 {
		x, name := m.term(5), m.name()
		gone := x.PutType(name, typ(t, "Gone")).PutCo(name, co(t, "<Gone>")).PutVar(name, con("Gone"))
		if again := gone.PutType(name, typ(t, "Again")).PutCo(name, co(t, "<Again>")).PutVar(name, con("Again")); !reflect.DeepEqual(again, gone) {
			t.Errorf("%q without %s is %q, and then %q", x.Print(), name, gone.Print(), again.Print())
		}
		if same := x.PutType(name, types.Type{Kind: api.Var, Name: name}).PutCo(name, coerce.Co{Kind: api.CoVar, Name: name}).PutVar(name, v(name)); tree(same) != tree(x) {
			t.Errorf("%q with %s in its own place is %q", x.Print(), name, same.Print())
		}
	}
}

// L2: what is put in the places of names of unlike sorts is put in whichever order.
func TestOrderOfSorts(t *testing.T) {
	m := newMaker(5)
	for range 20000 {
		x, name := m.term(5), m.name()
		one := x.PutType(name, typ(t, "T")).PutCo(name, co(t, "<U>")).PutVar(name, con("V"))
		other := x.PutVar(name, con("V")).PutCo(name, co(t, "<U>")).PutType(name, typ(t, "T"))
		if tree(one) != tree(other) {
			t.Errorf("%q is %q, and %q", x.Print(), one.Print(), other.Print())
		}
	}
}

// L1 to L3: whatever the texts are, they are read as the grammar says, or not; what was read is read again, and something is put into it as the chapter says.
func FuzzParse(f *testing.F) {
	for _, s := range []string{"", `id:forall a.a->a=(!a.(\x:a.x))`, `(case x:T of{K @b ~c y->(y|>(Sym c));L->z})`, "((K @ Int) ~ <Int>)", "(let x : T = y in x)", `f:a=(\c:c.(!b.(c|>(All b<c>))));g:?1=K # $`} {
		f.Add(s)
	}
	f.Fuzz(func(t *testing.T, s string) {
		if l, e := fc.Parse(s); e == api.OK {
			text := fc.Print(l)
			if again, e := fc.Parse(text); len(text) <= api.MaxInput && (e != api.OK || !reflect.DeepEqual(again, l)) {
				t.Errorf("%q is read as %s, and that again as %s, %v", s, trees(l), trees(again), e)
			}
		}
		if x, e := fc.ParseTerm(s); e == api.OK && len(x.Print()) <= api.MaxInput {
			isReadAgain(t, x)
			for _, name := range []string{"x", "c", "b"} {
				isPutByTheLetter(t, x, "type", name)
				isPutByTheLetter(t, x, "proof", name)
				isPutByTheLetter(t, x, "var", name)
			}
		}
		// The reference takes too long where there are many tokens, which are too few to be too deep.
		if l, _, e := lex.Scan(s); e == api.OK && len(l) > 0 && len(l) < 40 {
			isReadAsTold(t, words(t, s))
		}
	})
}
