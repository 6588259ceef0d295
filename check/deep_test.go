package check_test

import (
	"strconv"
	"testing"

	"savant/api"
	"savant/check"
	"savant/coerce"
	"savant/fc"
	"savant/types"
)

// doubled is a term for all types of a name, in whose type b -> b is put for the name, and so on, that often: so the type is too great to be written.
func doubled(x fc.Term, times int) fc.Term {
	b := tv("b")
	for range times {
		x = fc.Term{Kind: api.FTyLam, Name: "b", Kids: []fc.Term{{Kind: api.FTyApp, T: fun(b, b), Kids: []fc.Term{x}}}}
	}
	return x
}

// M1, R1: where types are too great to be written, each call ends all the same, in good time.
func TestGreatTypesEnd(t *testing.T) {
	const times = 45
	w := ordinary(t)
	of := func(u string) string {
		x := doubled(term(t, "(case Z : "+u+" of {})"), times)
		return fc.Term{Kind: api.FTyApp, T: typ(t, "N"), Kids: []fc.Term{x}}.Print()
	}
	great, fromGreat, inE, ofJ := of("forall a. a"), of("forall a. a -> Int"), of("forall a. E a"), of("forall a. J (T a) a")
	w.areOf(t,
		"(case "+great+" : Int of {})", "Int",
		"("+fromGreat+" "+great+")", "Int",
		"("+fromGreat+" ("+great+" (case I : N of {})))", ill,
		"("+of("forall a. (a -> a) -> Int")+" "+great+")", ill,
		"("+of("forall a. (N -> a) -> Int")+" "+of("forall a. N -> a")+")", "Int",
		"(case "+inE+" : Int of {L ~c z -> z; U z -> ("+fromGreat+" z)})", "Int",
		"(case "+inE+" : Int of {L ~c z -> ("+fromGreat+" (z |> (Sym c)))})", "Int",
		"(case "+inE+" : Int of {L ~c z -> ("+fromGreat+" z)})", ill,
		"(case "+inE+" : Int of {L ~c z -> ("+fromGreat+" (z |> (Sym (Trans c <Int>))))})", "Int",
		"(case "+ofJ+" : Int of {Join @a @b ~c ~d y -> ("+fromGreat+" ((case Z : a of {}) |> (Sym (Nth 0 c))))})", "Int",
		"(case "+ofJ+" : Int of {Join @a @b ~c ~d y -> ("+fromGreat+" ((case Z : b of {}) |> (Sym (Nth 0 c))))})", ill,
	)
	u, e := check.Term(w.table, w.defs, term(t, great))
	for range times {
		if e != api.OK || u.Kind != api.Fun {
			t.Fatal(u.Kind, e)
		}
		u = u.Args[1]
	}
	if u.Print() != "N" {
		t.Error(u.Print())
	}
	if name, e := check.Program(w.table, []fc.Def{{Name: "n", T: typ(t, "N"), E: term(t, "(case "+great+" : N of {})")}, {Name: "m", T: typ(t, "N"), E: term(t, great)}}); name != "m" || e != api.ErrIll {
		t.Error(name, e)
	}
}

const deep = 1 << 16

// wrap is x within terms that with makes of what stands within.
func wrap(x fc.Term, with func(i int, x fc.Term) fc.Term) fc.Term {
	for i := range deep - 1 {
		x = with(i, x)
	}
	return x
}

// R1: each call ends with terms of 2^16 within one another, in good time.
func TestDeepTermsEnd(t *testing.T) {
	w := ordinary(t)
	n, refl := ofData("N"), parsed(t, coerce.Parse, "<N>")
	named := func(i int) string { return "n" + strconv.Itoa(i) }
	many, chain, poly := n, n, n
	for i := range deep {
		many, chain, poly = fun(n, many), all(named(i), chain), all("a", poly)
	}
	w.defs = append(w.defs, fc.Def{Name: "many", T: many}, fc.Def{Name: "chain", T: chain}, fc.Def{Name: "poly", T: poly})
	for way, c := range map[string]struct {
		x    fc.Term
		want types.Type
	}{
		"FLam": {wrap(term(t, `(\z : N. z)`), func(i int, x fc.Term) fc.Term {
			return fc.Term{Kind: api.FLam, Name: named(i), T: n, Kids: []fc.Term{x}}
		}), many},
		"FTyLam":        {wrap(term(t, `(!z. Z)`), func(i int, x fc.Term) fc.Term { return fc.Term{Kind: api.FTyLam, Name: named(i), Kids: []fc.Term{x}} }), poly},
		"FTyLam, alike": {wrap(term(t, `(!a. Z)`), func(i int, x fc.Term) fc.Term { return fc.Term{Kind: api.FTyLam, Name: "a", Kids: []fc.Term{x}} }), poly},
		"FApp, right":   {wrap(term(t, "n"), func(_ int, x fc.Term) fc.Term { return fc.Term{Kind: api.FApp, Kids: []fc.Term{term(t, "S"), x}} }), n},
		"FApp, left":    {wrap(term(t, "(many n)"), func(_ int, x fc.Term) fc.Term { return fc.Term{Kind: api.FApp, Kids: []fc.Term{x, term(t, "n")}} }), n},
		"FTyApp":        {wrap(term(t, "(chain @ N)"), func(_ int, x fc.Term) fc.Term { return fc.Term{Kind: api.FTyApp, T: n, Kids: []fc.Term{x}} }), n},
		"FLet, left": {wrap(term(t, "n"), func(_ int, x fc.Term) fc.Term {
			return fc.Term{Kind: api.FLet, Name: "x", T: n, Kids: []fc.Term{x, term(t, "x")}}
		}), n},
		"FLet, right": {wrap(term(t, "n"), func(i int, x fc.Term) fc.Term {
			return fc.Term{Kind: api.FLet, Name: named(i), T: n, Kids: []fc.Term{term(t, "n"), x}}
		}), n},
		"FCase, Kid": {wrap(term(t, "n"), func(_ int, x fc.Term) fc.Term { return fc.Term{Kind: api.FCase, T: n, Kids: []fc.Term{x}} }), n},
		"FCase, Alt": {wrap(term(t, "n"), func(i int, x fc.Term) fc.Term {
			return fc.Term{Kind: api.FCase, T: n, Kids: []fc.Term{term(t, "n")}, Alts: []fc.Alt{{Con: "S", Vars: []string{named(i)}, Body: x}}}
		}), n},
		"FCast": {wrap(term(t, "n"), func(_ int, x fc.Term) fc.Term { return fc.Term{Kind: api.FCast, Co: refl, Kids: []fc.Term{x}} }), n},
		"mixed": {wrap(term(t, "n"), func(i int, x fc.Term) fc.Term {
			x = fc.Term{Kind: api.FTyLam, Name: "a", Kids: []fc.Term{{Kind: api.FLam, Name: named(i), T: tv("a"), Kids: []fc.Term{x}}}}
			return fc.Term{Kind: api.FTyApp, T: n, Kids: []fc.Term{x}}
		}), many.Args[1]},
	} {
		u, e := check.Term(w.table, w.defs, c.x)
		if e != api.OK || !u.Same(c.want) {
			t.Errorf("%s: %v", way, e)
		}
		if name, e := check.Program(w.table, []fc.Def{{Name: "it", T: n, E: c.x}}); name != "it" && e != api.OK {
			t.Errorf("%s as a definition: %q, %v", way, name, e)
		}
	}
}

// R1: likewise where constructors are applied to many types and proofs, and where what is applied is none.
func TestManyTypesAndProofsEnd(t *testing.T) {
	w := ordinary(t)
	for _, s := range []string{"L", "U", "I", "n", "id", "x"} {
		for _, kind := range []int{api.FTyApp, api.FCoApp} {
			x := wrap(term(t, s), func(_ int, x fc.Term) fc.Term {
				return fc.Term{Kind: kind, T: typ(t, "N"), Co: coerce.Co{Kind: api.CoRefl, T: typ(t, "N")}, Kids: []fc.Term{x}}
			})
			if got := told(check.Term(w.table, w.defs, x)); got != ill {
				t.Errorf("%s: %.80s", s, got)
			}
		}
	}
}

// R1: likewise with types and coercions that are deep.
func TestDeepTypesEnd(t *testing.T) {
	w := ordinary(t)
	u, c := tv("a"), parsed(t, coerce.Parse, "<a>")
	for i := range deep - 1 {
		name := "n" + strconv.Itoa(i)
		switch i % 3 {
		case 0:
			u, c = ofData("E", u), coerce.Co{Kind: api.CoCon, Name: "E", Kids: []coerce.Co{c}}
		case 1:
			u, c = fun(u, tv("a")), coerce.Co{Kind: api.CoFun, Kids: []coerce.Co{c, {Kind: api.CoRefl, T: tv("a")}}}
		default:
			u, c = all(name, u), coerce.Co{Kind: api.CoAll, Name: name, Kids: []coerce.Co{c}}
		}
	}
	x := fc.Term{Kind: api.FCast, Co: c, Kids: []fc.Term{{Kind: api.FVar, Name: "x"}}}
	x = fc.Term{Kind: api.FTyLam, Name: "a", Kids: []fc.Term{{Kind: api.FLam, Name: "x", T: u, Kids: []fc.Term{x}}}}
	if got, e := check.Term(w.table, w.defs, x); e != api.OK || !got.Same(all("a", fun(u, u))) {
		t.Error(e)
	}
}

// M2, R1: many definitions, each of which uses the one behind it.
func TestManyDefinitions(t *testing.T) {
	const many = 20000
	w := ordinary(t)
	var l []fc.Def
	for i := range many {
		next := fc.Term{Kind: api.FVar, Name: "d" + strconv.Itoa((i+1)%many)}
		l = append(l, fc.Def{Name: "d" + strconv.Itoa(i), T: ofData("N"), E: fc.Term{Kind: api.FApp, Kids: []fc.Term{{Kind: api.FCon, Name: "S"}, next}}})
	}
	if name, e := check.Program(w.table, l); name != "" || e != api.OK {
		t.Error(name, e)
	}
	l[many-1].T = ofData("Int")
	if name, e := check.Program(w.table, l); name != l[many-2].Name || e != api.ErrIll {
		t.Error(name, e)
	}
}
