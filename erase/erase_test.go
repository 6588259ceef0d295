package erase_test

import (
	"reflect"
	"testing"

	"savant/api"
	"savant/erase"
	"savant/fc"
	"savant/syntax"
)

// parsed is what parse reads of a text that must be one of its kind.
func parsed[T any](t *testing.T, parse func(s string) (T, api.Errno), s string) T {
	t.Helper()
	x, e := parse(s)
	if e != api.OK {
		t.Fatalf("%.200q: %v", s, e)
	}
	return x
}

func term(t *testing.T, s string) fc.Term {
	t.Helper()
	return parsed(t, fc.ParseTerm, s)
}

func expr(t *testing.T, s string) syntax.Expr {
	t.Helper()
	return parsed(t, syntax.ParseExpr, s)
}

// isLeft asks whether what is left is this expression, exactly.
func isLeft(t *testing.T, of string, got, want syntax.Expr) {
	t.Helper()
	if !reflect.DeepEqual(got, want) {
		t.Errorf("of %.300q is left %.300q, %+v, not %.300q", of, got.Print(), got, want.Print())
	}
}

// N1, N2: the chapter's examples.
func TestExamples(t *testing.T) {
	for s, want := range map[string]string{
		`(!a. (\x : E a. (case x : a of {L ~c y -> (y |> (Sym c)); U z -> z})))`: `\x -> case x of {L y -> y; U z -> z}`,
		`(let x : Int = ((id @ Int) I) in (J x))`:                                `let x = id I in J x`,
	} {
		if got := erase.Term(term(t, s)).Print(); got != want {
			t.Errorf("of %q is left %q", s, got)
		}
	}
	if got := erase.Source(expr(t, `let x : Int = (I : Int) in (f (x : Int) : X)`)).Print(); got != `let x = I in f x` {
		t.Error(got)
	}
}

// N1: what is left of a term of each kind, and of each of its parts.
func TestTerms(t *testing.T) {
	for s, want := range map[string]string{
		"x":           "x",
		"a_1Z":        "a_1Z",
		"K":           "K",
		`(\x : a. y)`: `\x -> y`,
		`(\x : forall x. x -> T ?1. (\y : a. x))`: `\x -> \y -> x`,
		"(!a. x)":                              "x",
		"(!x. x)":                              "x",
		"(!a. (!b. (!a. K)))":                  "K",
		"(f x)":                                "f x",
		"((f x) y)":                            "f x y",
		"(f (x y))":                            "f (x y)",
		"(K f)":                                "K f",
		"(x @ a)":                              "x",
		"(x @ forall x. x -> x)":               "x",
		"((K @ a) @ T a)":                      "K",
		"(x ~ x)":                              "x",
		"((K ~ c) ~ (Trans c (Sym c)))":        "K",
		"(x |> (All x <x>))":                   "x",
		"((f x) |> c)":                         "f x",
		"((((K @ a) ~ c) x) |> (Nth 0 c))":     "K x",
		"((!a. ((f |> c) @ a)) ((x @ b) ~ d))": "f x",
		"(((!a. f) x) ((!b. f) y))":            "f x (f y)",
		"(let x : a = y in z)":                 "let x = y in z",
		"(let x : forall x. x = (!a. x) in ((x @ a) |> c))":  "let x = x in x",
		"(let x : a = (\\y : b. y) in (let z : c = x in z))": `let x = \y -> y in let z = x in z`,
		"(case x : a of {})":                                         "case x of {}",
		"(case (x @ a) : T x of {})":                                 "case x of {}",
		"(case x : a of {K -> y})":                                   "case x of {K -> y}",
		"(case x : a of {K y z -> f; L -> K; K x x -> x})":           "case x of {K y z -> f; L -> K; K x x -> x}",
		"(case x : a of {K @x @y ~x ~z -> x})":                       "case x of {K -> x}",
		"(case x : a of {K @a ~b x -> (x |> b); L ~x y -> (!x. y)})": "case x of {K x -> x; L y -> y}",
		"(case (case (f @ a) : b of {K @a x -> (x @ a)}) : c of {L ~d y -> (case (y |> d) : e of {M ~z -> (K ~ z)})})": "case case f of {K x -> x} of {L y -> case y of {M -> K}}",
		`(\x : a. (let y : b = (!c. x) in (case (y @ d) : e of {K @g ~h z -> (f ((z |> h) @ g))})))`:                   `\x -> let y = x in case y of {K z -> f z}`,
	} {
		isLeft(t, s, erase.Term(term(t, s)), expr(t, want))
	}
}

// N2: what is left of an expression of each kind, and of each of its parts.
func TestSources(t *testing.T) {
	for s, want := range map[string]string{
		"x":                                   "x",
		"K":                                   "K",
		"(x : a)":                             "x",
		"((x : a) : forall x. x)":             "x",
		"(f x : a)":                           "f x",
		`\x -> x`:                             `\x -> x`,
		`\x -> (x : ?1)`:                      `\x -> x`,
		`(\x -> (\y -> x : a) : b)`:           `\x -> \y -> x`,
		"f x y":                               "f x y",
		"f (x y)":                             "f (x y)",
		"(f : a) x":                           "f x",
		"f (x : a)":                           "f x",
		"(f x : a) (g y : b)":                 "f x (g y)",
		`(\x -> x : a) (\y -> y : b)`:         `(\x -> x) (\y -> y)`,
		"let x = y in z":                      "let x = y in z",
		"let x : a = y in z":                  "let x = y in z",
		"let x : forall x. x -> T x = x in x": "let x = x in x",
		"let x = (y : a) in (z : b)":          "let x = y in z",
		"let x : a = let y : b = z in y in let z : c = x in z": "let x = let y = z in y in let z = x in z",
		"case x of {}":       "case x of {}",
		"case (x : a) of {}": "case x of {}",
		"case x of {K y z -> f; L -> K; K x x -> x}":                                     "case x of {K y z -> f; L -> K; K x x -> x}",
		"case (x : a) of {K y -> (y : b); L -> (K : c)}":                                 "case x of {K y -> y; L -> K}",
		"(case (case x of {K y -> (y : a)} : b) of {L -> let z : c = (z : d) in z} : e)": "case case x of {K y -> y} of {L -> let z = z in z}",
		`\x -> let y : b = (x : a) in case (y : d) of {K z -> (f (z : e) : g)}`:          `\x -> let y = x in case y of {K z -> f z}`,
	} {
		isLeft(t, s, erase.Source(expr(t, s)), expr(t, want))
	}
}
