package erase_test

import (
	"math/rand"
	"reflect"
	"testing"

	"savant/api"
	"savant/coerce"
	"savant/erase"
	"savant/fc"
	"savant/grammar"
	"savant/lex"
	"savant/syntax"
	"savant/types"
)

// way is how something is read, what is left of it, and the grammar that tells that.
type way[T interface{ Print() string }] struct {
	parse func(s string) (T, api.Errno)
	left  func(x T) syntax.Expr
	grammar.Grammar
	piece string
}

var ofTerms = way[fc.Term]{fc.ParseTerm, erase.Term, terms, "term"}

var ofSources = way[syntax.Expr]{syntax.ParseExpr, erase.Source, exprs, "expr"}

// leaves asks whether want is left of x, and x is not changed; and what the grammar tells of its text, if it can be asked.
func (w way[T]) leaves(t *testing.T, x T, want syntax.Expr) (isAsked bool) {
	t.Helper()
	s := x.Print()
	isLeft(t, s, w.left(x), want)
	again, e := w.parse(s)
	if e != api.OK { // it is too great to be read
		return false
	}
	if !reflect.DeepEqual(x, again) {
		t.Errorf("%q is changed into %q", s, x.Print())
	}
	return w.isAsTold(t, s)
}

// isAsTold asks whether what is left of what a text is read as is what the grammar tells, and left as it is. It takes long where there are many tokens: of such texts nothing is asked, and false is told.
func (w way[T]) isAsTold(t *testing.T, s string) (isAsked bool) {
	t.Helper()
	x := parsed(t, w.parse, s)
	l, _, _ := lex.Scan(s)
	if len(l) > 50 {
		return false
	}
	var words []string
	for _, x := range l {
		words = append(words, x.Text)
	}
	readings := w.Readings(w.piece, words)
	if len(readings) != 1 {
		t.Fatalf("%q is a %s in %d ways", s, w.piece, len(readings))
	}
	got := w.left(x)
	isLeft(t, s, got, expr(t, readings[0]))
	isLeft(t, s, erase.Source(got), got)
	return true
}

func v(name string) syntax.Expr { return syntax.Expr{Kind: api.EVar, Name: name} }

func con(name string) syntax.Expr { return syntax.Expr{Kind: api.ECon, Name: name} }

// maker makes expressions, and puts types and proofs into them, the same ones each time. Names are few, and the same ones for all sorts.
type maker struct{ *rand.Rand }

func newMaker(seed int64) maker { return maker{rand.New(rand.NewSource(seed))} }

func pick[T any](m maker, l ...T) T { return l[m.Intn(len(l))] }

func some[T any](m maker, most int, one func() T) []T {
	var l []T
	for range m.Intn(most + 1) {
		l = append(l, one())
	}
	return l
}

func (m maker) name() string { return pick(m, "a", "b", "x", "y") }

func (m maker) con() string { return pick(m, "K", "L", "T") }

func (m maker) typ() types.Type {
	t, _ := types.Parse(pick(m, "a", "x", "T", "?1", "T b", "a -> K", "forall x. x", "forall a b. T a -> y"))
	return t
}

func (m maker) co() coerce.Co {
	c, _ := coerce.Parse(pick(m, "x", "a", "<b>", "(Sym y)", "(Trans a <x>)", "(All x <x>)", "(Nth 0 (Con T x))", "(Inst a <T x>)"))
	return c
}

// bare makes an expression in which there are no types: nothing else than itself is left of it.
func (m maker) bare(room int) syntax.Expr {
	if room == 0 || m.Intn(6) == 0 {
		return pick(m, v(m.name()), con(m.con()))
	}
	one := func() syntax.Expr { return m.bare(room - 1) }
	switch m.Intn(5) {
	case 0:
		return syntax.Expr{Kind: api.ELam, Name: m.name(), Kids: []syntax.Expr{one()}}
	case 1:
		return syntax.Expr{Kind: api.ELet, Name: m.name(), Kids: []syntax.Expr{one(), one()}}
	case 2:
		return syntax.Expr{Kind: api.ECase, Kids: []syntax.Expr{one()}, Alts: some(m, 3, func() syntax.Alt {
			return syntax.Alt{Con: m.con(), Vars: some(m, 3, m.name), Body: one()}
		})}
	}
	return syntax.Expr{Kind: api.EApp, Kids: []syntax.Expr{one(), one()}}
}

// told is e with types in it that are told.
func (m maker) told(e syntax.Expr) syntax.Expr {
	var kids []syntax.Expr
	for _, k := range e.Kids {
		kids = append(kids, m.told(k))
	}
	var alts []syntax.Alt
	for _, a := range e.Alts {
		alts = append(alts, syntax.Alt{Con: a.Con, Vars: a.Vars, Body: m.told(a.Body)})
	}
	e.Kids, e.Alts = kids, alts
	if e.Kind == api.ELet && m.Intn(2) == 0 {
		e.Told, e.T = true, m.typ()
	}
	for m.Intn(4) == 0 {
		e = syntax.Expr{Kind: api.EAnn, T: m.typ(), Kids: []syntax.Expr{e}}
	}
	return e
}

// typed is a term of which e is left.
func (m maker) typed(e syntax.Expr) fc.Term {
	x := fc.Term{Name: e.Name}
	for _, k := range e.Kids {
		x.Kids = append(x.Kids, m.typed(k))
	}
	for _, a := range e.Alts {
		x.Alts = append(x.Alts, fc.Alt{Con: a.Con, Types: some(m, 2, m.name), Cos: some(m, 2, m.name), Vars: a.Vars, Body: m.typed(a.Body)})
	}
	switch e.Kind {
	case api.EVar:
		x.Kind = api.FVar
	case api.ECon:
		x.Kind = api.FCon
	case api.ELam:
		x.Kind, x.T = api.FLam, m.typ()
	case api.EApp:
		x.Kind = api.FApp
	case api.ELet:
		x.Kind, x.T = api.FLet, m.typ()
	case api.ECase:
		x.Kind, x.T = api.FCase, m.typ()
	}
	for m.Intn(3) == 0 {
		x = m.wrapped(x)
	}
	return x
}

// wrapped is a term of types or proofs around x.
func (m maker) wrapped(x fc.Term) fc.Term {
	kids := []fc.Term{x}
	return pick(m,
		fc.Term{Kind: api.FTyLam, Name: m.name(), Kids: kids},
		fc.Term{Kind: api.FTyApp, T: m.typ(), Kids: kids},
		fc.Term{Kind: api.FCoApp, Co: m.co(), Kids: kids},
		fc.Term{Kind: api.FCast, Co: m.co(), Kids: kids})
}

// N1, N3: whatever types and proofs are put in, what is left is what it was.
func TestMadeTerms(t *testing.T) {
	m := newMaker(1)
	asked := 0
	for i := range 6000 {
		e := m.bare(i % 6)
		if ofTerms.leaves(t, m.typed(e), e) && ofTerms.leaves(t, m.typed(e), e) {
			asked++
		}
	}
	if asked < 3000 {
		t.Error(asked)
	}
}

// N2, N3: whatever types are told, what is left is what it was.
func TestMadeSources(t *testing.T) {
	m := newMaker(2)
	asked := 0
	for i := range 6000 {
		e := m.bare(i % 6)
		if ofSources.leaves(t, m.told(e), e) {
			asked++
		}
	}
	if asked < 3000 {
		t.Error(asked)
	}
}

// N3: types and proofs that are put in the place of names do not matter; and what is left is left as it is.
func TestPutTypesAndProofs(t *testing.T) {
	m := newMaker(3)
	for i := range 10000 {
		x := m.typed(m.bare(i % 6))
		want := erase.Term(x)
		put := x.PutType(m.name(), m.typ()).PutCo(m.name(), m.co())
		isLeft(t, put.Print(), erase.Term(put), want)
		isLeft(t, want.Print(), erase.Source(want), want)
		told := m.told(want)
		isLeft(t, told.Print(), erase.Source(told), want)
	}
}

// small are all terms of at most so many within one another, of few names, types and proofs.
func small(deep int) []fc.Term {
	l := []fc.Term{{Kind: api.FVar, Name: "x"}, {Kind: api.FCon, Name: "K"}}
	if deep == 1 {
		return l
	}
	u, c := types.Type{Kind: api.Var, Name: "a"}, coerce.Co{Kind: api.CoVar, Name: "c"}
	less := small(deep - 1)
	for _, x := range less {
		kids := []fc.Term{x}
		l = append(l, fc.Term{Kind: api.FLam, Name: "x", T: u, Kids: kids}, fc.Term{Kind: api.FTyLam, Name: "a", Kids: kids},
			fc.Term{Kind: api.FTyApp, T: u, Kids: kids}, fc.Term{Kind: api.FCoApp, Co: c, Kids: kids}, fc.Term{Kind: api.FCast, Co: c, Kids: kids}, fc.Term{Kind: api.FCase, T: u, Kids: kids})
		for _, y := range less {
			kids := []fc.Term{x, y}
			l = append(l, fc.Term{Kind: api.FApp, Kids: kids}, fc.Term{Kind: api.FLet, Name: "y", T: u, Kids: kids},
				fc.Term{Kind: api.FCase, T: u, Kids: kids[:1], Alts: []fc.Alt{{Con: "K", Types: []string{"a"}, Cos: []string{"c"}, Vars: []string{"y"}, Body: y}}})
		}
	}
	return l
}

// N1: of all small terms that is left which the grammar tells.
func TestSmallTerms(t *testing.T) {
	l := small(3)
	for _, x := range l {
		if !ofTerms.isAsTold(t, x.Print()) {
			t.Error(x.Print())
		}
	}
	if len(l) < 2000 {
		t.Error(len(l))
	}
}

// N1, N2, N3: whatever the texts are, of what they are read as that is left which the grammars tell, and it is left as it is.
func FuzzErase(f *testing.F) {
	for _, s := range []string{`(!a. (\x : E a. (case x : a of {L ~c y -> (y |> (Sym c)); U z -> z})))`, `(let x : Int = ((id @ Int) I) in (J x))`, `let x : Int = (I : Int) in (f (x : Int) : X)`, `\x -> case (x : a) of {K y -> y}`, "((K @ Int) ~ <Int>)"} {
		f.Add(s)
	}
	f.Fuzz(func(t *testing.T, s string) {
		if _, e := fc.ParseTerm(s); e == api.OK {
			ofTerms.isAsTold(t, s)
		}
		if _, e := syntax.ParseExpr(s); e == api.OK {
			ofSources.isAsTold(t, s)
		}
	})
}
