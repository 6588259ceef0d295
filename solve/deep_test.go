package solve_test

import (
	"slices"
	"strconv"
	"strings"
	"testing"

	"savant/api"
	"savant/coerce"
	"savant/solve"
	"savant/types"
	"savant/unify"
)

func want(l, r types.Type) solve.Want { return solve.Want{L: l, R: r} }

func given(name string, l, r types.Type) coerce.Given {
	return coerce.Given{Name: name, L: l, R: r}
}

// upTo are the numbers from first on, below end.
func upTo(first, end int) []int {
	var l []int
	for n := first; n < end; n++ {
		l = append(l, n)
	}
	return l
}

// doubled wants each unknown, from first on, below last, to have the next one in it twice.
func doubled(first, last int) []solve.Want {
	var l []solve.Want
	for n := first; n < last; n++ {
		l = append(l, want(meta(n), fun(meta(n+1), meta(n+1))))
	}
	return l
}

// isGreat asks whether t is functions, so many within one another, of want.
func isGreat(t *testing.T, x types.Type, parts int, want string) {
	t.Helper()
	for i := range parts {
		if x.Kind != api.Fun || len(x.Args) != 2 {
			t.Fatal(i, x.Kind)
		}
		x = x.Args[i%2]
	}
	if got := x.Print(); got != want {
		t.Error(got)
	}
}

// isTold asks Solve for this answer.
func isTold(t *testing.T, p solve.Problem, want string) {
	t.Helper()
	if got := told(solve.Solve(p)); got != want {
		t.Errorf("is told %q, not %q", got, want)
	}
}

// R1: types that short problems make too great to be written are no reason not to end.
func TestGreatTypesEnd(t *testing.T) {
	const n = 200
	a, u, integer := v("a"), con("U"), con("Int")
	for _, turned := range []bool{false, true} {
		l := slices.Concat(doubled(0, n), doubled(n+1, 2*n+1), []solve.Want{want(meta(0), meta(n+1))})
		if turned {
			slices.Reverse(l)
		}
		all := solve.Problem{New: upTo(0, 2*n+2), Wants: l}
		k, e := solve.Solve(all)
		if e != api.OK || len(k) != 2*n+1 || k[2*n].T.Print() != "?200" {
			t.Fatal(len(k), e)
		}
		isGreat(t, k[0].T, n, "?200")
		isGreat(t, k[n].T, n, "?200")

		all.Wants = append(slices.Clone(l), want(integer, u))
		isTold(t, all, "stuck")
		all.Wants = append(slices.Clone(l), want(meta(n), integer), want(meta(2*n+1), u))
		isTold(t, all, "stuck")
		all.Wants = append(slices.Clone(l), want(meta(n), con("T", meta(n+1))))
		isTold(t, all, "stuck")

		all.Wants = append(slices.Clone(l), want(meta(n), integer))
		all.Inner = []solve.Inner{{Names: []string{"a"}, Givens: []coerce.Given{given("c", a, meta(0))}, P: solve.Problem{Wants: []solve.Want{want(a, meta(n+1)), want(con("T", a), con("T", meta(0)))}}}}
		k, e = solve.Solve(all)
		if e != api.OK || len(k) != 2*n+2 {
			t.Fatal(len(k), e)
		}
		isGreat(t, k[n+1].T, n, "Int")
		all.Inner[0].Givens = append(all.Inner[0].Givens, given("d", a, fun(meta(1), u)))
		isTold(t, all, "contra")
		all.Inner[0].P.Wants, all.Inner[0].Givens = []solve.Want{want(a, fun(meta(1), u))}, all.Inner[0].Givens[:1]
		isTold(t, all, "stuck")
	}
}

// R1: likewise where givens make types great.
func TestGreatGivensEnd(t *testing.T) {
	const n = 100
	name := func(letter string, i int) types.Type { return v(letter + strconv.Itoa(i)) }
	var in solve.Inner
	for i := range n {
		for _, letter := range []string{"a", "b"} {
			in.Givens = append(in.Givens, given(letter+strconv.Itoa(i), name(letter, i), fun(name(letter, i+1), name(letter, i+1))))
		}
	}
	in.Givens = append(in.Givens, given("c", name("a", n), name("b", n)))
	in.P = solve.Problem{New: []int{1}, Wants: []solve.Want{want(name("a", 0), name("b", 0)), want(meta(1), fun(name("b", 0), name("a", 0)))}}
	k, e := solve.Solve(solve.Problem{Inner: []solve.Inner{in}})
	if e != api.OK || len(k) != 1 {
		t.Fatal(len(k), e)
	}
	isGreat(t, k[0].T, n+1, "a100")
	in.P.Wants = append(in.P.Wants, want(name("a", 0), fun(name("b", 0), name("a", 0))))
	isTold(t, solve.Problem{Inner: []solve.Inner{in}}, "stuck")
}

// G2: many unknowns that are one another, or have one another in them, in whichever order.
func TestManyUnknowns(t *testing.T) {
	const n = 2000
	for i, of := range []func(i int) int{func(i int) int { return i }, func(i int) int { return n - 1 - i }, func(i int) int { return i * 7 % n }} {
		var chain, tower []solve.Want
		for j := range n {
			chain = append(chain, want(meta(of(j)), meta(of(j)+1)))
			tower = append(tower, want(meta(of(j)), con("T", meta(of(j)+1))))
		}
		news := upTo(0, n+1)
		k, e := solve.Solve(solve.Problem{New: news, Wants: chain})
		if e != api.OK || len(k) != n || !isEach(k, "?0") {
			t.Error(i, len(k), e)
		}
		k, e = solve.Solve(solve.Problem{New: news, Wants: append(chain, want(con("Int"), meta(n/2)))})
		if e != api.OK || len(k) != n+1 || !isEach(k, "Int") {
			t.Error(i, len(k), e)
		}
		k, e = solve.Solve(solve.Problem{New: news, Wants: tower})
		if e != api.OK || len(k) != n || k[0].T.Depth() != n+1 {
			t.Error(i, len(k), e)
		}
		isTold(t, solve.Problem{New: news, Wants: append(tower, want(meta(n), meta(n/2)))}, "stuck")
	}
}

// isEach tells whether each unknown is told to be this.
func isEach(l []unify.Known, want string) bool {
	return !slices.ContainsFunc(l, func(k unify.Known) bool { return k.T.Print() != want })
}

// G1, G2: many problems within one another, each with givens that the ones within need; programs may make more of them than texts.
func TestManyWithinOneAnother(t *testing.T) {
	const n = 300
	p := solve.Problem{Wants: []solve.Want{want(v("a0"), con("Int"))}, New: []int{0}}
	p.Wants = append(p.Wants, want(meta(0), con("T", v("a"+strconv.Itoa(n-1)), v("a0"))))
	for i := n - 1; i >= 0; i-- {
		name := "a" + strconv.Itoa(i)
		outer := v("a" + strconv.Itoa(i-1))
		if i == 0 {
			outer = con("Int")
		}
		in := solve.Inner{Givens: []coerce.Given{given("c"+name, v(name), outer)}, P: p}
		if i%2 == 0 {
			in.Names = []string{name}
		}
		p = solve.Problem{Inner: []solve.Inner{in}}
	}
	isTold(t, p, "?0 = T Int Int")
	if got := strings.Count(p.Print(), "{"); got != n {
		t.Error(got)
	}
	if again, e := solve.Parse(p.Print()); e == api.OK {
		t.Error(again.Print())
	}
}

// G2: many problems beside one another.
func TestManyBesideOneAnother(t *testing.T) {
	const n = 1000
	p := solve.Problem{New: upTo(0, n)}
	for i := range n {
		name := "a" + strconv.Itoa(i)
		in := solve.Inner{Names: []string{name}, Givens: []coerce.Given{given("c"+name, v(name), meta((i+1)%n))}}
		in.P.Wants = []solve.Want{want(v(name), con("T", con("Int")))}
		p.Inner = append(p.Inner, in, solve.Inner{P: solve.Problem{Wants: []solve.Want{want(meta(i), con("T", con("Int")))}}})
	}
	k, e := solve.Solve(p)
	if e != api.OK || len(k) != n || !isEach(k, "T Int") {
		t.Error(len(k), e)
	}
	p.Inner[2*n-2].P.Wants[0].R = con("T", con("U"))
	isTold(t, p, "stuck")
}

// R1: types that are deep, with names that are bound within one another; and many that stand side by side.
func TestDeepAndWideTypes(t *testing.T) {
	const n = 3000
	l, r := fun(meta(1), v("b")), fun(con("Int"), v("d"))
	for range n {
		l, r = all("b", con("T", fun(v("b"), l))), all("d", con("T", fun(v("d"), r)))
	}
	isTold(t, solve.Problem{New: []int{1}, Wants: []solve.Want{want(l, r)}}, "?1 = Int")
	isTold(t, solve.Problem{New: []int{1}, Wants: []solve.Want{want(fun(l, r), fun(r, fun(l, l)))}}, "stuck")
	var metas, integers []types.Type
	for i := range n {
		metas, integers = append(metas, meta(i)), append(integers, con("Int"))
	}
	k, e := solve.Solve(solve.Problem{New: upTo(0, n), Wants: []solve.Want{want(con("T", metas...), con("T", integers...))}})
	if e != api.OK || len(k) != n || !isEach(k, "Int") {
		t.Error(len(k), e)
	}
}

// G2: whatever problem a text is, what is told is as in the reference; and what is read is written and read again.
func FuzzSolve(f *testing.F) {
	for _, s := range []string{
		"?1; ?2; ?1 ~ T ?2; ?2 ~ Int;", "?1; [a, c: a ~ ?1] {a ~ Int;} ?1 ~ Int;", "[a b, c: P a b ~ P b (T a)] {}", "?9; [, c: x ~ x] {?2; ?2 ~ ?9; [d] {?1; ?1 ~ P ?2 d;}}",
		"?1; [a] {?2; forall b. b -> ?1 ~ forall d. d -> T ?2; ?2 ~ a;}", "[b a, c: a ~ b] {?1; ?1 ~ a; [, d: ?1 ~ Int] {b ~ Int;}}",
	} {
		f.Add(s)
	}
	f.Fuzz(func(t *testing.T, s string) {
		// The reference takes too long where types are great, and has names of its own.
		if len(s) > 300 || strings.Contains(s, newConstant) {
			return
		}
		p, e := solve.Parse(s)
		if e != api.OK {
			return
		}
		if again, e := solve.Parse(p.Print()); len(p.Print()) <= api.MaxInput && (e != api.OK || again.Print() != p.Print()) {
			t.Errorf("%q is written %q", s, p.Print())
		}
		if got, want := told(solve.Solve(p)), told(newReference(p).solve()); got != want {
			t.Errorf("of %q is told %q, not %q", s, got, want)
		}
	})
}
