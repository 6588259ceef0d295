package check_test

import (
	"maps"
	"slices"
	"strings"
	"testing"

	"savant/api"
	"savant/check"
	"savant/coerce"
	"savant/fc"
	"savant/lex"
	"savant/types"
)

// isAsTold asks Term for what the chapter's table tells, and tells whether that is a type.
func (w world) isAsTold(t *testing.T, x fc.Term) bool {
	t.Helper()
	got, want := told(check.Term(w.table, w.defs, x)), w.asTold(x)
	if got != want {
		t.Fatalf("%q: %q, not %q", x.Print(), got, want)
	}
	return want != ill
}

// kinds counts how many terms and coercions of each kind were met.
type kinds struct{ terms, cos [api.FCast + 1]int }

func (k *kinds) meet(x fc.Term) {
	k.terms[x.Kind]++
	k.meetCo(x.Co)
	for _, y := range x.Kids {
		k.meet(y)
	}
	for _, a := range x.Alts {
		k.meet(a.Body)
	}
}

func (k *kinds) meetCo(c coerce.Co) {
	k.cos[c.Kind]++
	for _, d := range c.Kids {
		k.meetCo(d)
	}
}

// M1, M2: terms that were made of a type have it.
func TestMadeTerms(t *testing.T) {
	w := ordinary(t)
	m, met := newMaker(w, 1), kinds{}
	for i := range 20000 {
		u := m.typ(scope{}, i%4)
		x := m.term(m.scope(), u, i%6)
		if got := told(check.Term(w.table, w.defs, x)); got != u.Canon() {
			t.Fatalf("%q: %q, not %q", x.Print(), got, u.Canon())
		}
		if got := w.asTold(x); got != u.Canon() {
			t.Fatalf("by the table %q: %q, not %q", x.Print(), got, u.Canon())
		}
		if name, e := check.Program(w.table, slices.Concat(w.defs, []fc.Def{{Name: "it", T: u, E: x}})); name != "" || e != api.OK {
			t.Fatalf("%q: %q, %v", x.Print(), name, e)
		}
		if name, e := check.Program(w.table, slices.Concat([]fc.Def{{Name: "it", T: all("other", u), E: x}}, w.defs)); name != "it" || e != api.ErrIll {
			t.Fatalf("%q of another type: %q, %v", x.Print(), name, e)
		}
		met.meet(x)
	}
	if slices.Min(met.terms[api.FVar:]) < 500 || slices.Min(met.cos[api.CoVar:api.CoInst+1]) < 500 {
		t.Error(met)
	}
}

// larger are terms that have one of l, or two, in them, of few names, types and proofs. Of two one is of few.
func larger(t *testing.T, few, l []fc.Term) []fc.Term {
	t.Helper()
	var made []fc.Term
	lay := func(x fc.Term, alts ...fc.Alt) { x.Alts = alts; made = append(made, x) }
	u, a := typ(t, "Int"), typ(t, "a")
	for _, x := range l {
		one := []fc.Term{x}
		lay(fc.Term{Kind: api.FTyLam, Name: "a", Kids: one})
		for _, u := range []types.Type{u, a} {
			lay(fc.Term{Kind: api.FLam, Name: "y", T: u, Kids: one})
			lay(fc.Term{Kind: api.FTyApp, T: u, Kids: one})
			lay(fc.Term{Kind: api.FCase, T: u, Kids: one})
			lay(fc.Term{Kind: api.FCase, T: u, Kids: few[:1]}, fc.Alt{Con: "U", Vars: []string{"y"}, Body: x}, fc.Alt{Con: "L", Cos: []string{"c"}, Vars: []string{"x"}, Body: few[2]})
		}
		for _, c := range []string{"c", "(Sym c)", "<a>", "<Int>", "(Con E c)"} {
			lay(fc.Term{Kind: api.FCoApp, Co: parsed(t, coerce.Parse, c), Kids: one})
			lay(fc.Term{Kind: api.FCast, Co: parsed(t, coerce.Parse, c), Kids: one})
		}
		for _, y := range few {
			lay(fc.Term{Kind: api.FApp, Kids: []fc.Term{x, y}})
			lay(fc.Term{Kind: api.FApp, Kids: []fc.Term{y, x}})
			lay(fc.Term{Kind: api.FLet, Name: "y", T: u, Kids: []fc.Term{x, y}})
			lay(fc.Term{Kind: api.FLet, Name: "x", T: a, Kids: []fc.Term{y, x}})
			lay(fc.Term{Kind: api.FCase, T: a, Kids: one}, fc.Alt{Con: "L", Cos: []string{"c"}, Vars: []string{"y"}, Body: y})
			lay(fc.Term{Kind: api.FCase, T: u, Kids: []fc.Term{y}}, fc.Alt{Con: "L", Cos: []string{"d"}, Vars: []string{"y"}, Body: x})
		}
	}
	return made
}

// M1: of all small terms that is told which the table tells.
func TestSmallTerms(t *testing.T) {
	w := newWorld(t, "data Int {I : Int}; data E a {L : Int -> E Int; U : forall d. d -> E d}", "f : forall a. E a -> a = f")
	var few []fc.Term
	for _, s := range []string{"x", "f", "y", "I", "L", "U", "(f @ a)", "(U @ Int)", "((L @ a) ~ c)"} {
		few = append(few, term(t, s))
	}
	two := larger(t, few, few)
	met := map[bool]int{}
	for _, x := range slices.Concat(few, two, larger(t, few, two)) {
		// In the first of these x has its own type, in the other one givens.
		bare, given := term(t, `(!a. (\x : E a. (\y : a. I)))`), term(t, `(!a. (\x : E a. (case x : Int of {L ~c y -> (case I : Int of {})})))`)
		bare.Kids[0].Kids[0].Kids[0] = x
		given.Kids[0].Kids[0].Alts[0].Body.Kids[0] = x
		met[w.isAsTold(t, bare)]++
		met[w.isAsTold(t, given)]++
		met[w.isAsTold(t, x)]++
	}
	if met[true] < 1000 || met[false] < 100000 {
		t.Error(met)
	}
}

// others are places in x at which something else may be put: each lays it there.
func (m *maker) others(x *fc.Term) []func() {
	l := []func(){func() { *x = m.term(m.scope(), m.typ(scope{}, 2), 1) }}
	if len(x.Kids) > 0 {
		l = append(l, func() { *x = x.Kids[len(x.Kids)-1] }, func() { slices.Reverse(x.Kids) })
	}
	if x.T.Kind != 0 {
		l = append(l, func() { x.T = m.typ(scope{types: []string{m.boundName(), m.boundName()}}, 2) })
	}
	if x.Co.Kind != 0 {
		l = append(l, func() { x.Co = m.otherCo(x.Co) })
	}
	for i := range x.Alts {
		l = append(l, func() { m.change(&x.Alts[i]) }, func() { x.Alts = append(x.Alts, x.Alts[i]) })
		l = append(l, m.others(&x.Alts[i].Body)...)
	}
	for i := range x.Kids {
		l = append(l, m.others(&x.Kids[i])...)
	}
	return l
}

func (m *maker) boundName() string { return "a" + string(rune('0'+m.Intn(10))) }

// otherCo is a coercion with another one in the place of one in it.
func (m *maker) otherCo(c coerce.Co) coerce.Co {
	if len(c.Kids) > 0 && m.Intn(3) > 0 {
		c.Kids = slices.Clone(c.Kids)
		i := m.Intn(len(c.Kids))
		c.Kids[i] = m.otherCo(c.Kids[i])
		return c
	}
	s := scope{types: []string{m.boundName()}}
	switch m.Intn(6) {
	case 0:
		return sym(c)
	case 1:
		return coerce.Co{Kind: api.CoCon, Name: pick(m, "E", "T", "Any", "N", "Foo", "Q"), Kids: []coerce.Co{c}}
	case 2:
		return coerce.Co{Kind: api.CoNth, Kids: []coerce.Co{{Kind: api.CoCon, Name: pick(m, "E", "T", "Any", "Foo", "Q"), Kids: []coerce.Co{c}}}}
	case 3:
		return coerce.Co{Kind: api.CoInst, T: m.typ(s, 1), Kids: []coerce.Co{{Kind: api.CoAll, Name: m.boundName(), Kids: []coerce.Co{c}}}}
	case 4:
		return coerce.Co{Kind: api.CoVar, Name: "c" + string(rune('0'+m.Intn(10)))}
	}
	c, _ = m.co(s, m.typ(s, 1), 1)
	return c
}

func (m *maker) change(a *fc.Alt) {
	names := pick(m, &a.Types, &a.Cos, &a.Vars)
	switch n := len(*names); {
	case m.Intn(5) == 0:
		a.Con = pick(m, "Z", "S", "L", "U", "B", "M", "D", "X", "Hide", "Refl")
	case n == 0 || m.Intn(3) == 0:
		*names = append(*names, pick(m, "a1", "c1", "x1"))
	case n > 1 && m.Intn(2) == 0:
		slices.Reverse(*names)
	case n > 1 && m.Intn(2) == 0:
		(*names)[0] = (*names)[1]
	default:
		*names = (*names)[1:]
	}
}

// crowded is a text with few names: those of each sort are a few of those that were there. So names are bound within one another, and what stood for something may stand for something else.
func (m *maker) crowded(t *testing.T, s string) string {
	few := map[string]string{}
	var words []string
	for _, x := range parsedTokens(t, s) {
		if x.Kind == api.TokVar && len(x.Text) > 1 && strings.Contains("acx", x.Text[:1]) {
			if _, ok := few[x.Text]; !ok {
				few[x.Text] = x.Text
				if old := slices.Sorted(maps.Keys(few)); m.Intn(3) == 0 {
					few[x.Text] = pick(m, old...)
				}
			}
			x.Text = few[x.Text]
		}
		words = append(words, x.Text)
	}
	return strings.Join(words, " ")
}

func parsedTokens(t *testing.T, s string) []api.Token {
	t.Helper()
	l, _, e := lex.Scan(s)
	if e != api.OK {
		t.Fatalf("%q: %v", s, e)
	}
	return l
}

// M1: of terms in which something was changed that is told which the table tells; of many a type, of many none.
func TestChangedTerms(t *testing.T) {
	w := ordinary(t)
	m, met := newMaker(w, 2), map[bool]int{}
	for i := range 60000 {
		m.names = 0
		s := m.term(m.scope(), m.typ(scope{}, 2), i%6).Print()
		if len(s) > 2000 {
			continue
		}
		if i%3 == 0 {
			s = m.crowded(t, s)
		}
		// What was printed and read again shares nothing with anything.
		x := term(t, s)
		for range m.Intn(3) {
			l := m.others(&x)
			l[m.Intn(len(l))]()
		}
		was := x.Print()
		met[w.isAsTold(t, x)]++
		if x.Print() != was {
			t.Fatalf("%q is changed into %q", was, x.Print())
		}
	}
	if met[true] < 15000 || met[false] < 15000 {
		t.Error(met)
	}
}

// M3: a term has its type with more definitions, which have other names; and with all of its names that are bound being other ones.
func TestMoreDefinitions(t *testing.T) {
	w := ordinary(t)
	m := newMaker(w, 3)
	more := slices.Concat(parsed(t, fc.Parse, "x1 : N = x; a1 : forall a. a = x; other : Int = I"), w.defs, parsed(t, fc.Parse, "x2 : H = x; c1 : W = x"))
	for i := range 10000 {
		m.names = 100
		x := m.term(m.scope(), m.typ(scope{}, 2), i%6)
		if got, want := told(check.Term(w.table, more, x)), told(check.Term(w.table, w.defs, x)); got != want {
			t.Fatalf("%q: %q, and %q with more definitions", x.Print(), want, got)
		}
	}
}

// M3: with a type in the place of a type variable that is free in a term, it has its type with that in the place.
func TestPutTypes(t *testing.T) {
	w := ordinary(t)
	m := newMaker(w, 4)
	for i := range 10000 {
		s := m.scope().withType("a").withVar("x", tv("a")).withVar("y", ofData("E", tv("a")))
		u, with := m.typ(s, 2), m.typ(scope{}, 2)
		open := fc.Term{Kind: api.FLam, Name: "x", T: tv("a"), Kids: []fc.Term{{Kind: api.FLam, Name: "y", T: ofData("E", tv("a")), Kids: []fc.Term{m.term(s, u, i%6)}}}}
		u = fun(tv("a"), fun(ofData("E", tv("a")), u))
		whole := fc.Term{Kind: api.FTyLam, Name: "a", Kids: []fc.Term{open}}
		if got, want := told(check.Term(w.table, w.defs, whole)), all("a", u).Canon(); got != want {
			t.Fatalf("%q: %q, not %q", whole.Print(), got, want)
		}
		if got, want := told(check.Term(w.table, w.defs, open.PutType("a", with))), u.Put("a", with).Canon(); got != want {
			t.Fatalf("%q with %q in the place of a: %q, not %q", open.Print(), with.Print(), got, want)
		}
	}
}

// M1 to M3: whatever the texts are, that is told of a term which the table tells; and of it as a definition, likewise.
func FuzzTerm(f *testing.F) {
	for _, s := range []string{
		`(!a. (\x : E a. (case x : a of {L ~c y -> (y |> (Sym c)); U z -> z})))`,
		"((f @ Int) (((L @ Int) ~ <Int>) I))",
		`(\h : H. (case h : N of {Hide @a x y -> (y x)}))`,
		`(\x : J N (T Int). (case x : Eq N Int of {Join @a @b ~c ~d y -> (y |> (Con Eq (Sym c) (Nth 0 (Sym d))))}))`,
		"((id |> (All b (Fun <b> <b>))) @ forall c. (Q c) c)",
		"(let x : forall b. b -> b = id in ((x @ Int) i))",
	} {
		f.Add(s)
	}
	w := ordinary(f)
	f.Fuzz(func(t *testing.T, s string) {
		x, e := fc.ParseTerm(s)
		// The reference takes too long where types are great.
		if e != api.OK || len(s) > 400 {
			return
		}
		w.isAsTold(t, x)
		u, e := check.Term(w.table, w.defs, x)
		if e != api.OK {
			u = typ(t, "N")
		}
		if name, e2 := check.Program(w.table, slices.Concat(w.defs, []fc.Def{{Name: "fresh", T: u, E: x}})); e2 != e || (e == api.OK) != (name == "") {
			t.Errorf("%q as a definition: %q, %v", s, name, e2)
		}
	})
}
