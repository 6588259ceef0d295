package solve_test

import (
	"reflect"
	"strconv"
	"strings"
	"testing"

	"savant/api"
	"savant/coerce"
	"savant/solve"
	"savant/types"
	"savant/unify"
)

func v(name string) types.Type { return types.Type{Kind: api.Var, Name: name} }

func meta(n int) types.Type { return types.Type{Kind: api.Meta, N: n} }

func con(name string, args ...types.Type) types.Type {
	return types.Type{Kind: api.Con, Name: name, Args: args}
}

func fun(from, to types.Type) types.Type {
	return types.Type{Kind: api.Fun, Args: []types.Type{from, to}}
}

func all(name string, body types.Type) types.Type {
	return types.Type{Kind: api.All, Name: name, Args: []types.Type{body}}
}

func parsed(t testing.TB, s string) solve.Problem {
	t.Helper()
	p, e := solve.Parse(s)
	if e != api.OK {
		t.Fatalf("%q is no problem: %v", s, e)
	}
	return p
}

// told writes what Solve answers: each unknown with its type, or the error's name.
func told(l []unify.Known, e api.Errno) string {
	var parts []string
	for _, k := range l {
		parts = append(parts, "?"+strconv.Itoa(k.Meta)+" = "+k.T.Print())
	}
	names := map[api.Errno]string{api.OK: "", api.ErrScope: "scope", api.ErrPoly: "poly", api.ErrStuck: "stuck", api.ErrContra: "contra"}
	name, ok := names[e]
	if !ok {
		name = e.Error()
	}
	return name + strings.Join(parts, ", ")
}

// isSolved asks Solve for this answer.
func isSolved(t *testing.T, s, want string) {
	t.Helper()
	if got := told(solve.Solve(parsed(t, s))); got != want {
		t.Errorf("of %q is told %q, not %q", s, got, want)
	}
}

// areSolved asks for answers of texts, each ahead of its answer.
func areSolved(t *testing.T, l [][2]string) {
	t.Helper()
	for _, x := range l {
		isSolved(t, x[0], x[1])
	}
}

// G2: the chapter's examples.
func TestExamples(t *testing.T) {
	areSolved(t, [][2]string{
		{"?1; ?2; ?1 ~ T ?2; ?2 ~ Int;", "?1 = T Int, ?2 = Int"},
		{"[a, c: a ~ Int] {a -> a ~ Int -> a;}", ""},
		{"?1; [a, c: a ~ Int] {?1 ~ Int;}", "stuck"},
		{"?1; [a] {?1 ~ Int;}", "?1 = Int"},
		{"?1; [a] {?1 ~ a;}", "stuck"},
		{"[a] {?1; ?1 ~ a;}", "?1 = a"},
		{"?1; [a, c: a ~ ?1] {a ~ Int;} ?1 ~ Int;", "?1 = Int"},
		{"[a, c: a ~ Int, d: a ~ U] {}", "contra"},
		{"[a] {} [a] {}", "scope"},
		{"?1 ~ a;", "scope"},
	})
}

// G2: unknowns that are in New twice, or stand where no problem around has them there.
func TestScopeOfUnknowns(t *testing.T) {
	areSolved(t, [][2]string{
		{"?1; ?1;", "scope"},
		{"?1; [] {?1;}", "scope"},
		{"[] {?1;} [] {?1;}", "scope"},
		{"[] {?1; [] {[] {?1;}}}", "scope"},
		{"?1; ?2;", ""},
		{"?0; ?0 ~ ?0;", ""},
		{"?1; ?1 ~ ?2;", "scope"},
		{"Int ~ T (a -> ?1);", "scope"},
		{"forall a. ?1 ~ forall a. a;", "scope"},
		{"?1; [] {[] {?1 ~ Int;}}", "?1 = Int"},
		{"[] {?1;} ?1 ~ Int;", "scope"},
		{"[] {?1;} [] {?1 ~ Int;}", "scope"},
		{"[] {?1;} [] {[] {?1 ~ Int;}}", "scope"},
		{"[] {[] {?1;} ?1 ~ Int;}", "scope"},
		{"?1; [a, c: a ~ ?1] {}", ""},
		{"[a, c: a ~ ?1] {}", "scope"},
		{"[a, c: a ~ ?1] {?1;}", "scope"},
		{"[a, c: T ?1 ~ a] {?1;}", "scope"},
		{"[a, c: a ~ ?1] {[] {?1;}}", "scope"},
		{"[] {?1;} [a, c: a ~ ?1] {}", "scope"},
		{"[a, c: a ~ a] {?1; [, d: a ~ ?1] {}}", ""},
	})
}

// G2: names that are bound twice, or stand where they are not bound, though somewhere they are; and givens of one name.
func TestScopeOfNames(t *testing.T) {
	areSolved(t, [][2]string{
		{"[a a] {}", "scope"},
		{"[a b a] {}", "scope"},
		{"[a] {[a] {}}", "scope"},
		{"[a] {[] {[b a] {}}}", "scope"},
		{"[] {[a] {}} [a] {}", "scope"},
		{"[a] {} [b] {}", ""},
		{"a ~ a; [a] {}", "scope"},
		{"a ~ a; [b] {b ~ b; a ~ a;}", ""},
		{"[a] {} T (Int -> a) ~ Int;", "scope"},
		{"Int ~ Int; Int ~ a; [] {[a] {}}", "scope"},
		{"[a] {} [b] {a ~ a;}", "scope"},
		{"[a] {} [b, c: a ~ b] {}", "scope"},
		{"[b, c: b ~ T a] {[a] {}}", "scope"},
		{"[a] {[b, c: a ~ b] {a ~ b;}}", ""},
		{"[a, c: a ~ a] {[b] {a ~ a; b ~ b;} a ~ a;}", ""},
		{"[a] {forall a. a ~ forall b. b;}", ""},
		{"[a] {} forall a. a ~ forall b. b;", ""},
		{"[a] {} forall b. a ~ forall b. a;", "scope"},
		{"[a, c: a ~ a, c: a ~ a] {}", "scope"},
		{"[a, c: a ~ a] {[, c: a ~ a] {}}", "scope"},
		{"[a, c: a ~ a] {} [b, c: b ~ b] {}", "scope"},
		{"[a, a: a ~ a] {} [b, b: b ~ b] {}", ""},
		{"[, c: x ~ x] {x ~ x;} x ~ x;", ""},
	})
}

// G2: which error comes first.
func TestFirstError(t *testing.T) {
	areSolved(t, [][2]string{
		{"[a, c: a ~ forall b. b] {}", "poly"},
		{"[a, c: forall b. Int ~ a] {}", "poly"},
		{"[a, c: a ~ T (Int -> forall b. a)] {}", "poly"},
		{"?1; [a, c: ?1 ~ forall b. b] {}", "poly"},
		{"[a] {[] {[, c: a ~ forall b. b] {}}}", "poly"},
		{"?1; ?1; [a, c: a ~ forall b. b] {}", "scope"},
		{"[a, c: a ~ forall b. b] {a ~ ?1;}", "scope"},
		{"[a, c: a ~ forall b. b] {} [a] {}", "scope"},
		{"[a, c: a ~ forall b. b] {} a ~ a;", "scope"},
		{"[a, c: a ~ forall b. b, c: a ~ a] {}", "scope"},
		{"Int ~ U; ?1 ~ Int;", "scope"},
		{"Int ~ U; [a, c: a ~ forall b. b] {}", "poly"},
		{"[, c: Int ~ U] {} [, d: x ~ forall b. b] {}", "poly"},
		{"Int ~ U; [a, c: Int ~ U] {}", "stuck"},
		{"[a, c: Int ~ U] {} Int ~ U;", "stuck"},
		{"[a, c: Int ~ U] {} [b, d: b ~ Int] {b ~ U;}", "stuck"},
		{"[a, c: Int ~ U] {Int ~ U;} [b, d: b ~ Int] {b ~ Int;}", "contra"},
	})
}

// G2: what holds without anything that is known, or given, and what does not.
func TestWithoutUnknowns(t *testing.T) {
	areSolved(t, [][2]string{
		{"", ""},
		{"a ~ a; Int ~ Int; T a (a -> Int) ~ T a (a -> Int);", ""},
		{"a ~ b;", "stuck"},
		{"a ~ Int;", "stuck"},
		{"Int ~ U;", "stuck"},
		{"T a ~ T b;", "stuck"},
		{"T a ~ T a a;", "stuck"},
		{"T ~ T a;", "stuck"},
		{"T a ~ U a;", "stuck"},
		{"T a b ~ a -> b;", "stuck"},
		{"a -> b ~ b -> a;", "stuck"},
		{"a -> b ~ a -> b;", ""},
		{"forall a. a ~ forall b. b;", ""},
		{"forall a b. a -> b ~ forall b a. b -> a;", ""},
		{"forall a b. a -> b ~ forall a b. b -> a;", "stuck"},
		{"forall a. a ~ forall b. Int;", "stuck"},
		{"forall a. a ~ a;", "stuck"},
		{"forall a. b ~ forall b. b;", "stuck"},
		{"forall a. a ~ forall a b. a;", "stuck"},
		{"(forall a. a) -> T (forall b. b) ~ (forall c. c) -> T (forall d. d);", ""},
		{"[a b] {a ~ b;}", "stuck"},
		{"[a b] {a ~ a;}", ""},
		{"Int ~ Int; Int ~ U; U ~ U;", "stuck"},
		{"[] {[] {Int ~ Int;} [] {Int ~ U;}}", "stuck"},
	})
}

// G2: what unknowns come to be.
func TestUnknowns(t *testing.T) {
	areSolved(t, [][2]string{
		{"?1;", ""},
		{"?1; Int ~ ?1;", "?1 = Int"},
		{"?1; ?1 ~ a -> T b;", "?1 = a -> T b"},
		{"?1; ?2; ?1 ~ ?2;", "?2 = ?1"},
		{"?1; ?2; ?2 ~ ?1;", "?2 = ?1"},
		{"?10; ?9; ?10 ~ ?9;", "?10 = ?9"},
		{"?1; ?2; ?3; ?2 ~ ?3; ?3 ~ ?1;", "?2 = ?1, ?3 = ?1"},
		{"?1; ?2; ?3; T ?3 ?2 ~ T ?2 ?1; ?3 ~ Int;", "?1 = Int, ?2 = Int, ?3 = Int"},
		{"?2; ?1; ?2 ~ T ?1; ?2 ~ T Int;", "?1 = Int, ?2 = T Int"},
		{"?1; ?2; P (T ?1) (?2 -> ?1) ~ P (T Int) (?1 -> ?2);", "?1 = Int, ?2 = Int"},
		{"?1; ?2; P (T ?1) (?2 -> ?1) ~ P (T Int) (U -> ?2);", "stuck"},
		{"?1; ?1 ~ T ?1;", "stuck"},
		{"?1; ?2; ?1 ~ T ?2; ?2 ~ ?1;", "stuck"},
		{"?1; ?2; ?1 ~ Int -> ?2; ?2 ~ ?1 -> Int;", "stuck"},
		{"?1; ?1 ~ Int; ?1 ~ U;", "stuck"},
		{"?1; ?1 ~ forall a. a;", "stuck"},
		{"?1; ?1 ~ T (Int -> forall a. a);", "stuck"},
		{"?1; ?1 -> forall a. a ~ T Int -> forall b. b;", "?1 = T Int"},
		{"?1; forall a. a -> ?1 ~ forall b. b -> Int;", "?1 = Int"},
		{"?1; forall a. a -> ?1 ~ forall b. b -> b;", "stuck"},
		{"?1; forall a. ?1 ~ forall b. T (b -> Int);", "stuck"},
		{"?1; forall a. a -> forall b. ?1 ~ forall a. a -> forall b. a;", "stuck"},
		{"?1; ?2; forall a. ?1 -> a ~ forall b. T ?2 -> b; ?2 ~ x;", "?1 = T x, ?2 = x"},
		{"?1; forall a. ?1 ~ forall b. a;", "?1 = a"},
		{"[a] {?1; forall a. ?1 -> a ~ forall b. a -> b;}", "?1 = a"},
		{"[a] {?1; forall a. ?1 -> a ~ forall a. a -> a;}", "stuck"},
		{"[a] {?1; forall b. ?1 -> b ~ forall c. a -> c;}", "?1 = a"},
	})
}

// G2: which unknowns may be which types, by the names that are bound and by where their homes are.
func TestHomes(t *testing.T) {
	areSolved(t, [][2]string{
		{"?1; [a] {?1 ~ T a;}", "stuck"},
		{"[a] {?1; [b] {?1 ~ T a;}}", "?1 = T a"},
		{"[a] {?1; [b] {?1 ~ T b;}}", "stuck"},
		{"[a] {?1; [b] {?1 ~ P a b;}}", "stuck"},
		{"[a] {?1; [b] {?1 ~ x;}}", "?1 = x"},
		{"[a] {[b] {?1; ?1 ~ P a b;}}", "?1 = P a b"},
		{"?1; [a] {?2; ?2 ~ a; ?1 ~ ?2;}", "stuck"},
		{"?1; [a] {?2; ?1 ~ ?2; ?2 ~ a;}", "stuck"},
		{"?2; [a] {?1; ?2 ~ ?1; ?1 ~ a;}", "stuck"},
		{"?2; [a] {?1; ?1 ~ a; ?2 ~ ?1;}", "stuck"},
		{"?1; [a] {?2; ?1 ~ T ?2; ?2 ~ a;}", "stuck"},
		{"?1; [a] {?2; ?2 ~ a; ?1 ~ T ?2;}", "stuck"},
		{"?1; [a] {?2; ?1 ~ T ?2; ?2 ~ Int;}", "?1 = T Int, ?2 = Int"},
		{"?1; [a] {?2; ?1 ~ T ?2; }", "?1 = T ?2"},
		{"?1; [a] {?2; ?2 ~ T ?1 a;}", "?2 = T ?1 a"},
		{"[a] {?1; [b] {?2; [d] {?3; ?1 ~ ?2 -> ?3; ?3 ~ a; ?2 ~ a;}}}", "?1 = a -> a, ?2 = a, ?3 = a"},
		{"[a] {?1; [b] {?2; [d] {?3; ?1 ~ ?2 -> ?3; ?3 ~ b;}}}", "stuck"},
		{"[a] {?1; [b] {?2; [d] {?3; ?2 ~ ?3 -> ?1; ?3 ~ b; ?1 ~ a;}}}", "?1 = a, ?2 = b -> a, ?3 = b"},
		{"[a] {?1; [b] {?2; [d] {?3; ?2 ~ ?3; ?1 ~ ?3;} ?2 ~ b;}}", "stuck"},
	})
}

// G2: givens that stand between an unknown's home and an equation.
func TestGivensBetween(t *testing.T) {
	areSolved(t, [][2]string{
		{"?1; [, c: x ~ x] {?1 ~ Int;}", "stuck"},
		{"?1; [, c: x ~ x] {[] {?1 ~ Int;}}", "stuck"},
		{"?1; [] {[, c: x ~ x] {?1 ~ Int;}}", "stuck"},
		{"?1; [] {[, c: x ~ x] {[] {?1 ~ Int;}}}", "stuck"},
		{"?1; [] {[] {?1 ~ Int;} [, c: x ~ x] {}}", "?1 = Int"},
		{"[, c: x ~ x] {?1; ?1 ~ Int;}", "?1 = Int"},
		{"[, c: x ~ x] {?1; [] {?1 ~ Int;}}", "?1 = Int"},
		{"[, c: x ~ x] {[] {?1; [a] {?1 ~ Int;}}}", "?1 = Int"},
		{"[, c: x ~ x] {?1; [, d: x ~ x] {?1 ~ Int;}}", "stuck"},
		{"?1; ?2; [, c: ?2 ~ x] {?1 ~ Int;}", "stuck"},
		{"?1; [, c: x ~ x] {?1 ~ ?1;}", ""},
		{"?1; [, c: x ~ x] {?1 ~ Int;} ?1 ~ Int;", "?1 = Int"},
		{"?1; [, c: x ~ x] {?1 ~ Int;} [] {?1 ~ Int;}", "?1 = Int"},
		{"?1; [, c: x ~ x] {?1 ~ Int;} ?1 ~ U;", "stuck"},
		{"?1; ?2; [, c: x ~ x] {?1 ~ ?2;}", "stuck"},
		{"?1; ?2; [, c: x ~ x] {?1 ~ ?2;} ?2 ~ Int; ?1 ~ Int;", "?1 = Int, ?2 = Int"},
		{"?1; ?2; [, c: x ~ x] {?1 ~ ?2;} ?2 ~ ?1;", "?2 = ?1"},
		{"?1; [, c: x ~ x] {?2; ?1 ~ ?2;}", "?2 = ?1"},
		{"?2; [, c: x ~ x] {?1; ?1 ~ ?2;}", "?2 = ?1"},
		{"?2; [, c: x ~ x] {?1; ?2 ~ T ?1;}", "stuck"},
		{"?2; [, c: x ~ x] {?1; ?2 ~ T ?1;} ?2 ~ T Int;", "?1 = Int, ?2 = T Int"},
		{"?2; [, c: x ~ x] {?1; ?1 ~ T ?2;}", "?1 = T ?2"},
		{"?2; [, c: x ~ x] {?1; ?1 ~ T ?2; ?1 ~ T Int;}", "stuck"},
	})
}

// G2: what holds by givens, at their problems and within.
func TestGivens(t *testing.T) {
	areSolved(t, [][2]string{
		{"[a, c: a ~ Int] {} x ~ Int;", "stuck"},
		{"[a, c: a ~ Int] {a ~ Int;}", ""},
		{"[a, c: Int ~ a] {[] {[b] {a ~ Int;}}}", ""},
		{"[a b, c: a ~ T b, d: b ~ Int] {a ~ T Int; T a ~ T (T b);}", ""},
		{"[a b, c: a ~ T b] {[, d: b ~ Int] {a ~ T Int;} b ~ Int;}", "stuck"},
		{"[a b, c: a ~ T b] {[, d: b ~ Int] {a ~ T Int;}}", ""},
		{"[a, c: a ~ Int] {} [b, d: b ~ U] {b ~ U;} ", ""},
		{"[a b, c: T a ~ T b] {a ~ b; a -> U ~ b -> U;}", ""},
		{"[a, c: a ~ Int] {a ~ U;}", "stuck"},
		{"[a b, c: a ~ Int] {a ~ b;}", "stuck"},
		{"[a, c: a ~ Int] {forall b. b -> a ~ forall d. d -> Int;}", ""},
		{"[a, c: a ~ Int] {forall a. a ~ forall a. Int;}", "stuck"},
		{"[, c: x ~ Int] {x ~ Int;}", ""},
		{"[, c: x ~ Int] {x ~ Int;} x ~ Int;", "stuck"},
		{"[a, c: a ~ Int] {?1; ?1 ~ a;}", "?1 = Int"},
		{"[a, c: a ~ Int] {?1; ?1 ~ T (a -> ?1);}", "stuck"},
		{"[a b, c: a ~ b] {[d] {?1; ?1 ~ P b d;}}", "?1 = P a d"},
		{"[a, c: a ~ Int] {?1; [b] {?1 ~ T a;}}", "?1 = T Int"},
		{"[a, c: a ~ x] {?1; T ?1 ~ T a;}", "?1 = x"},
	})
}

// G2: a given is usable when what is known leaves no unknown in it, and not ahead of that.
func TestUsableGivens(t *testing.T) {
	areSolved(t, [][2]string{
		{"?1; [a, c: a ~ ?1] {a ~ ?1;}", "stuck"},
		{"?1; [a, c: a ~ T ?1] {a ~ T Int;}", "stuck"},
		{"?1; [a, c: a ~ T ?1] {a ~ T Int;} ?1 ~ Int;", "?1 = Int"},
		{"?1; ?2; [a, c: a ~ T ?1] {a ~ T ?2;} ?1 ~ ?2;", "stuck"},
		{"?1; ?2; [a, c: a ~ T ?1] {a ~ T ?2;} ?1 ~ ?2; ?2 ~ Int;", "?1 = Int, ?2 = Int"},
		{"?1; [a b, c: a ~ ?1, d: b ~ U] {b ~ U;}", ""},
		{"?1; [, c: ?1 ~ U] {}", ""},
		{"?1; [, c: ?1 ~ U] {} ?1 ~ Int;", "contra"},
		{"?1; [, c: ?1 ~ U] {Int ~ U;} ?1 ~ Int;", "contra"},
		{"?1; [, c: ?1 ~ U] {Int ~ U;}", "stuck"},
		{"?1; [a, c: a ~ ?1] {[, d: a ~ U] {x ~ y;}} [] {?1 ~ Int;}", "contra"},
		{"?1; [a, c: a ~ ?1] {?2; ?2 ~ T a; [b, d: b ~ ?2] {b ~ T Int;}} ?1 ~ Int;", "?1 = Int, ?2 = T Int"},
		{"[a b, c: a ~ b] {?1; [, d: T ?1 ~ T Int] {b ~ Int;} ?1 ~ a;}", "?1 = a"},
	})
}

// G2: where givens contradict one another all holds, and is not worked on.
func TestContradictions(t *testing.T) {
	areSolved(t, [][2]string{
		{"[, c: Int ~ U] {}", "contra"},
		{"[, c: Int ~ U] {x ~ y; Int ~ forall a. a;}", "contra"},
		{"[a, c: a ~ T a] {}", "contra"},
		{"[a, c: a ~ Int] {[b, d: b ~ a] {[, e: b ~ U] {}}}", "contra"},
		{"[a, c: a ~ Int] {} [b, d: b ~ U] {}", ""},
		{"[a, c: a ~ Int] {[, d: a ~ U] {Int ~ U;} Int ~ U;}", "stuck"},
		{"[a, c: a ~ Int] {[, d: a ~ U] {[] {Int ~ U;}}}", "contra"},
		{"?1; [, c: Int ~ U] {?1 ~ Int;}", "contra"},
		{"[a b, c: P a b ~ P b (T a)] {}", "contra"},
		{"[a b, c: P a b ~ P b a] {a ~ b;}", ""},
	})
}

// G2: a type is told as it is at the home of its unknown: constants are there rather than names that are bound, and of each the first.
func TestTypesAtHomes(t *testing.T) {
	areSolved(t, [][2]string{
		{"[b a, c: a ~ b] {?1; ?1 ~ a;}", "?1 = b"},
		{"[a b, c: a ~ b] {?1; ?1 ~ b;}", "?1 = a"},
		{"[b] {[a, c: b ~ a] {?1; ?1 ~ a;}}", "?1 = b"},
		{"[b] {[a, c: a ~ b] {[] {[d, e: d ~ a] {?1; ?1 ~ T d;}}}}", "?1 = T b"},
		{"[a, c: a ~ z] {?1; ?1 ~ a;}", "?1 = z"},
		{"[, c: z ~ y, d: z ~ w1] {?1; ?1 ~ z;}", "?1 = w1"},
		{"[a, c: a ~ z, d: z ~ U] {?1; ?1 ~ a;}", "?1 = U"},
		{"?1; ?1 ~ x; [, c: x ~ Int] {?2; ?2 ~ ?1; ?3; ?3 ~ T ?2;}", "?1 = x, ?2 = Int, ?3 = T Int"},
		{"?1; ?1 ~ x; [, c: x ~ Int] {?1 ~ Int;}", "?1 = x"},
		{"?3; ?1; [, c: x ~ y] {?2; ?2 ~ P ?1 y; [, d: y ~ Int] {?4; ?4 ~ ?2;}} ?1 ~ T y;", "?1 = T y, ?2 = P (T x) x, ?4 = P (T Int) Int"},
		{"?1; [, c: ?1 ~ y] {?2; ?2 ~ T y;} ?1 ~ x;", "?1 = x, ?2 = T x"},
		{"[a, c: a ~ Int] {[] {?1; [] {?2; ?1 ~ T ?2; ?2 ~ a;}}}", "?1 = T Int, ?2 = Int"},
	})
}

// G2: of unknowns that are one another each is the one with the least number, wherever it stands.
func TestLeastNumbers(t *testing.T) {
	areSolved(t, [][2]string{
		{"?3; [a] {?2; [b] {?1; ?3 ~ ?2; ?2 ~ ?1;}}", "?2 = ?1, ?3 = ?1"},
		{"?3; [, c: x ~ x] {?2; ?2 ~ ?3; [, d: x ~ x] {?1; ?1 ~ ?2;}}", "?2 = ?1, ?3 = ?1"},
		{"?9; [, c: x ~ x] {?2; ?2 ~ ?9;} [, d: x ~ x] {?1; ?1 ~ ?9; ?4; ?4 ~ T ?9;}", "?2 = ?1, ?4 = T ?1, ?9 = ?1"},
		{"?9; ?8; ?8 ~ ?9 -> ?9; [, c: x ~ x] {?2; ?2 ~ ?9;}", "?8 = ?2 -> ?2, ?9 = ?2"},
		{"?5; ?4; ?3; ?7; ?7 ~ P ?5 ?4; ?5 ~ ?4; [] {?4 ~ ?3;}", "?4 = ?3, ?5 = ?3, ?7 = P ?3 ?3"},
		{"?9; [, c: x ~ x] {?2; ?2 ~ ?9;} ?9 ~ Int;", "?2 = Int, ?9 = Int"},
	})
}

// R3, R4: an error comes alone; nil lists and empty ones are the same.
func TestNilAndEmpty(t *testing.T) {
	for _, s := range []string{"?1; ?1 ~ Int; Int ~ U;", "?1; ?1 ~ Int; [, c: Int ~ U] {}", "?1; ?1 ~ ?2;", "?1; ?1 ~ Int; [, c: x ~ forall a. a] {}"} {
		if l, e := solve.Solve(parsed(t, s)); e == api.OK || len(l) != 0 {
			t.Error(s, l, e)
		}
	}
	empty := solve.Problem{New: []int{}, Wants: []solve.Want{}, Inner: []solve.Inner{}}
	bare := types.Type{Kind: api.Con, Name: "T"}
	filled := types.Type{Kind: api.Con, Name: "T", Args: []types.Type{}}
	a := types.Type{Kind: api.Var, Name: "a", Args: []types.Type{}}
	in := solve.Inner{Names: []string{"a"}, Givens: []coerce.Given{{Name: "c", L: a, R: filled}}, P: solve.Problem{Wants: []solve.Want{{L: bare, R: v("a")}, {L: bare, R: filled}}}}
	for _, p := range []solve.Problem{{}, empty, {Inner: []solve.Inner{{}}}, {Inner: []solve.Inner{{Names: []string{}, Givens: []coerce.Given{}, P: empty}}}, {Inner: []solve.Inner{in}}} {
		if l, e := solve.Solve(p); len(l) != 0 || e != api.OK {
			t.Error(p.Print(), l, e)
		}
	}
	// A problem without givens between is the same, whether there is a list of them or not.
	for _, none := range [][]coerce.Given{nil, {}} {
		p := parsed(t, "?1; [a] {?1 ~ Int;}")
		p.Inner[0].Givens = none
		if got := told(solve.Solve(p)); got != "?1 = Int" {
			t.Error(got)
		}
	}
}

// R5, R6: what is handed in stays, and the same is told again.
func TestNothingChanges(t *testing.T) {
	const s = "?4; ?1; ?1 ~ T ?4 (forall a. a); [a b, c: a ~ P ?4 b] {?2; T ?2 (forall d. d) ~ ?1; ?3; ?3 ~ a -> ?4;} ?4 ~ Int;"
	for _, s := range []string{s, strings.Replace(s, " (forall d. d) ~ ?1", " ~ T ?4", 1), "?1; ?2; ?2 ~ T ?1; [a, c: a ~ ?2] {?3; ?3 ~ a;} ?1 ~ Int -> x;"} {
		p := parsed(t, s)
		want := told(solve.Solve(p))
		for range 3 {
			if got := told(solve.Solve(p)); got != want {
				t.Errorf("of %q is told %q, and then %q", s, want, got)
			}
		}
		if !reflect.DeepEqual(p, parsed(t, s)) {
			t.Errorf("%q is changed", s)
		}
	}
}
