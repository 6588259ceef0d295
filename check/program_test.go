package check_test

import (
	"reflect"
	"testing"

	"savant/api"
	"savant/check"
	"savant/coerce"
	"savant/decls"
	"savant/fc"
	"savant/types"
)

// is asks Program of definitions for a name and an error.
func (w world) is(t *testing.T, defs, wantName string, want api.Errno) {
	t.Helper()
	l := parsed(t, fc.Parse, defs)
	if name, e := check.Program(w.table, l); name != wantName || e != want {
		t.Errorf("%q: %q, %v, not %q, %v", defs, name, e, wantName, want)
	}
	if !reflect.DeepEqual(l, parsed(t, fc.Parse, defs)) {
		t.Errorf("%q is changed", defs)
	}
}

const evaluator = `f : forall a. E a -> a = (!a. (\x : E a. (case x : a of {L ~c y -> (y |> (Sym c)); U z -> z; B @b @d ~e v w -> (((((M @ b) @ d) ((f @ b) v)) ((f @ d) w)) |> (Sym e))})))`

// M2: definitions that have the types that they tell, with all of them in scope, those behind them and themselves among them.
func TestPrograms(t *testing.T) {
	w := ordinary(t)
	for _, s := range []string{
		"",
		"n : N = Z",
		"n : N = n",
		"a : N = (S b); b : N = (S a)",
		`id : forall a. a -> a = (!a. (\x : a. x)); n : N = ((id @ N) (S Z))`,
		`n : N = ((id @ N) (S Z)); id : forall a. a -> a = (!b. (\x : b. x))`,
		evaluator,
		evaluator + "; n : N = ((f @ N) ((U @ N) Z))",
		`x : N -> N = (\x : N. x); y : N = (x Z)`,
		"none : None = none; all : forall a. a = (!a. (case none : a of {}))",
		"n : Any = n",
	} {
		w.is(t, s, "", api.OK)
	}
}

// M2: the first definition whose name is one of an earlier one, or whose type is no signature; of all of them, before terms are asked.
func TestWrongTypes(t *testing.T) {
	w := ordinary(t)
	for _, x := range []struct {
		defs, name string
		e          api.Errno
	}{
		{"n : N = Z; n : N = Z", "n", api.ErrTwice},
		{"n : N = Z; m : N = Z; m : N = Z; n : N = Z", "m", api.ErrTwice},
		{"n : N = Z; n : Foo = Z", "n", api.ErrTwice},
		{"n : N = Z; n : a = Z", "n", api.ErrTwice},
		{"n : Foo = Z; n : N = Z", "n", api.ErrKind},
		{"n : N = Z; m : Foo = Z; n : N = Z", "m", api.ErrKind},
		{"n : N = Z; n : N = Z; m : Foo = Z", "n", api.ErrTwice},
		{"n : a = n", "n", api.ErrOpen},
		{"n : forall b. b -> a = n", "n", api.ErrOpen},
		{"n : T = n", "n", api.ErrKind},
		{"n : N N = n", "n", api.ErrKind},
		{"n : ?1 = n", "n", api.ErrKind},
		{"n : a -> Foo = n", "n", api.ErrKind},
		{"n : a = n; m : Foo = m", "n", api.ErrOpen},
		{"n : Foo = n; m : a = m", "n", api.ErrKind},
		{"i : N = I; n : Foo = Z", "n", api.ErrKind},
		{"i : N = I; n : a = Z", "n", api.ErrOpen},
		{"i : N = I; i : N = Z", "i", api.ErrTwice},
		{"i : N = x; j : N = Z; j : N = Z", "j", api.ErrTwice},
	} {
		w.is(t, x.defs, x.name, x.e)
	}
}

// M2: then the first one whose term has no type, or another one.
func TestWrongTerms(t *testing.T) {
	w := ordinary(t)
	for _, x := range [][2]string{
		{"n : N = x", "n"},
		{"n : N = I", "n"},
		{"n : N = Z; m : N = I; i : Int = Z", "m"},
		{"n : N = (S m); m : Int = I", "n"},
		{"n : N = (S m); m : N = I", "m"},
		{"m : N = I; n : N = (S m)", "m"},
		{`id : forall a. a -> a = (!a. (\x : N. x))`, "id"},
		{`id : forall a. a -> a = (\x : N. x)`, "id"},
		{"id : forall a b. N = (!a. Z)", "id"},
		{"id : forall a. N = (!a. (!b. Z))", "id"},
		{"n : N -> N = n; m : N = n", "m"},
		{"a : N = ((!a. Z) @ a)", "a"},
	} {
		w.is(t, x[0], x[1], api.ErrIll)
	}
}

// M1, M2: definitions are asked for their types alone.
func TestDefinitionsAreBelieved(t *testing.T) {
	w := newWorld(t, data, "n : N = I; m : N = x")
	w.isOf(t, "(S n)", "N")
	w.isOf(t, "m", "N")
}

// R4, R6: lists that are nil are empty ones; a program without data has Any; what is told is told again.
func TestEmptyLists(t *testing.T) {
	none, _, _ := decls.New(nil)
	for _, tab := range []*decls.Table{none, nil} {
		for _, l := range [][]fc.Def{nil, {}} {
			for s, want := range map[string]string{`(!a. (\x : a. x))`: "forall x0. x0 -> x0", `(\x : Any. (x |> (Con Any)))`: "Any -> Any", "x": ill, "K": ill, `(\x : N. x)`: ill} {
				for range 2 {
					if got := told(check.Term(tab, l, term(t, s))); got != want {
						t.Errorf("%q: %q", s, got)
					}
				}
			}
			if name, e := check.Program(tab, l); name != "" || e != api.OK {
				t.Error(name, e)
			}
		}
	}
	w := ordinary(t)
	x := fc.Term{Kind: api.FCase, T: typ(t, "N"), Kids: []fc.Term{{Kind: api.FVar, Name: "n", Kids: []fc.Term{}, Alts: []fc.Alt{}}}, Alts: []fc.Alt{{Con: "Z", Types: []string{}, Cos: []string{}, Vars: []string{}, Body: term(t, "n")}}}
	if got := told(check.Term(w.table, w.defs, x)); got != "N" {
		t.Error(got)
	}
}

// R1: trees that are none of the chapters' do not make a call panic.
func TestOddTrees(t *testing.T) {
	w := ordinary(t)
	n := term(t, "n")
	var oddTypes []types.Type
	for kind := -1; kind <= 6; kind++ {
		for args := range 4 {
			u := types.Type{Kind: kind, Name: "N", N: -1}
			for range args {
				u.Args = append(u.Args, typ(t, "N"))
			}
			oddTypes = append(oddTypes, u, types.Type{Kind: api.Fun, Args: []types.Type{u, typ(t, "N")}})
		}
	}
	var oddCos []coerce.Co
	for kind := -1; kind <= 10; kind++ {
		for kids := range 4 {
			c := coerce.Co{Kind: kind, Name: "N", N: 1 - kids, T: typ(t, "N")}
			for range kids {
				c.Kids = append(c.Kids, parsed(t, coerce.Parse, "<N -> N>"))
			}
			oddCos = append(oddCos, c)
		}
	}
	for kind := -1; kind <= 11; kind++ {
		for kids := range 4 {
			x := fc.Term{Kind: kind, Name: "n", T: typ(t, "N"), Co: oddCos[0], Alts: []fc.Alt{{}, {Con: "Z"}}}
			for range kids {
				x.Kids = append(x.Kids, n)
			}
			check.Term(w.table, w.defs, x)
			for _, u := range oddTypes {
				x.T = u
				check.Term(w.table, []fc.Def{{Name: "n", T: u, E: x}}, x)
				check.Program(w.table, []fc.Def{{Name: "n", T: u, E: x}})
				check.Program(w.table, []fc.Def{{Name: "n", T: typ(t, "N"), E: x}})
			}
			for _, c := range oddCos {
				x.Co = c
				check.Term(w.table, w.defs, x)
			}
		}
	}
	if got := told(check.Term(w.table, w.defs, fc.Term{})); got != ill {
		t.Error(got)
	}
}

// R5: what was answered stays as it is, whatever is asked behind it.
func TestAnswersStay(t *testing.T) {
	w := ordinary(t)
	const s = `(!a. (\x : Q a (T a). (case x : E (a -> a) of {M y z -> ((U @ a -> a) (id @ a))})))`
	first, _ := check.Term(w.table, w.defs, term(t, s))
	want := first.Print()
	for _, other := range []string{s, "id", "f", `(!b. (\y : E b. ((k @ E b) @ T b)))`} {
		check.Term(w.table, w.defs, term(t, other))
	}
	if first.Print() != want {
		t.Errorf("%q became %q", want, first.Print())
	}
}
