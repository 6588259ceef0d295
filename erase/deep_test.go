package erase_test

import (
	"strconv"
	"testing"

	"savant/api"
	"savant/coerce"
	"savant/erase"
	"savant/fc"
	"savant/syntax"
	"savant/types"
)

const deep = 1 << 16

// within is x within what with makes of what stands within, that often.
func within[T any](x T, with func(i int, x T) T) T {
	for i := range deep - 1 {
		x = with(i, x)
	}
	return x
}

// isDeep asks whether what is left is so deep.
func isDeep(t *testing.T, way string, got syntax.Expr, depth int) {
	t.Helper()
	if got.Depth() != depth {
		t.Errorf("%s: %d deep, not %d", way, got.Depth(), depth)
	}
}

// R1: what is left of 2^16 terms within one another is told, in good time.
func TestDeepTermsEnd(t *testing.T) {
	name := func(i int) string { return "n" + strconv.Itoa(i) }
	x, u, c := fc.Term{Kind: api.FVar, Name: "x"}, types.Type{Kind: api.Var, Name: "a"}, coerce.Co{Kind: api.CoVar, Name: "c"}
	for way, with := range map[string]struct {
		term  func(i int, k fc.Term) fc.Term
		depth int
	}{
		"FLam": {func(i int, k fc.Term) fc.Term {
			return fc.Term{Kind: api.FLam, Name: name(i), T: u, Kids: []fc.Term{k}}
		}, deep},
		"FTyLam":      {func(i int, k fc.Term) fc.Term { return fc.Term{Kind: api.FTyLam, Name: name(i), Kids: []fc.Term{k}} }, 1},
		"FApp, left":  {func(_ int, k fc.Term) fc.Term { return fc.Term{Kind: api.FApp, Kids: []fc.Term{k, x}} }, deep},
		"FApp, right": {func(_ int, k fc.Term) fc.Term { return fc.Term{Kind: api.FApp, Kids: []fc.Term{x, k}} }, deep},
		"FTyApp":      {func(_ int, k fc.Term) fc.Term { return fc.Term{Kind: api.FTyApp, T: u, Kids: []fc.Term{k}} }, 1},
		"FCoApp":      {func(_ int, k fc.Term) fc.Term { return fc.Term{Kind: api.FCoApp, Co: c, Kids: []fc.Term{k}} }, 1},
		"FLet, left": {func(i int, k fc.Term) fc.Term {
			return fc.Term{Kind: api.FLet, Name: name(i), T: u, Kids: []fc.Term{k, x}}
		}, deep},
		"FLet, right": {func(i int, k fc.Term) fc.Term {
			return fc.Term{Kind: api.FLet, Name: name(i), T: u, Kids: []fc.Term{x, k}}
		}, deep},
		"FCase, Kid": {func(_ int, k fc.Term) fc.Term { return fc.Term{Kind: api.FCase, T: u, Kids: []fc.Term{k}} }, deep},
		"FCase, Alt": {func(i int, k fc.Term) fc.Term {
			return fc.Term{Kind: api.FCase, T: u, Kids: []fc.Term{x}, Alts: []fc.Alt{{Con: "K", Body: x}, {Con: "L", Vars: []string{name(i)}, Body: k}}}
		}, deep},
		"FCast": {func(_ int, k fc.Term) fc.Term { return fc.Term{Kind: api.FCast, Co: c, Kids: []fc.Term{k}} }, 1},
		"FLam, FCast": {func(i int, k fc.Term) fc.Term {
			if i%2 == 0 {
				return fc.Term{Kind: api.FLam, Name: name(i), T: u, Kids: []fc.Term{k}}
			}
			return fc.Term{Kind: api.FCast, Co: c, Kids: []fc.Term{k}}
		}, deep/2 + 1},
	} {
		isDeep(t, way, erase.Term(within(x, with.term)), with.depth)
	}
}

// R1: likewise of expressions.
func TestDeepSourcesEnd(t *testing.T) {
	name := func(i int) string { return "n" + strconv.Itoa(i) }
	x, u := v("x"), types.Type{Kind: api.Var, Name: "a"}
	for way, with := range map[string]struct {
		expr  func(i int, k syntax.Expr) syntax.Expr
		depth int
	}{
		"ELam": {func(i int, k syntax.Expr) syntax.Expr {
			return syntax.Expr{Kind: api.ELam, Name: name(i), Kids: []syntax.Expr{k}}
		}, deep},
		"EApp, left":  {func(_ int, k syntax.Expr) syntax.Expr { return syntax.Expr{Kind: api.EApp, Kids: []syntax.Expr{k, x}} }, deep},
		"EApp, right": {func(_ int, k syntax.Expr) syntax.Expr { return syntax.Expr{Kind: api.EApp, Kids: []syntax.Expr{x, k}} }, deep},
		"ELet, left": {func(i int, k syntax.Expr) syntax.Expr {
			return syntax.Expr{Kind: api.ELet, Name: name(i), Told: true, T: u, Kids: []syntax.Expr{k, x}}
		}, deep},
		"ELet, right": {func(i int, k syntax.Expr) syntax.Expr {
			return syntax.Expr{Kind: api.ELet, Name: name(i), Kids: []syntax.Expr{x, k}}
		}, deep},
		"ECase, Kid": {func(_ int, k syntax.Expr) syntax.Expr { return syntax.Expr{Kind: api.ECase, Kids: []syntax.Expr{k}} }, deep},
		"ECase, Alt": {func(i int, k syntax.Expr) syntax.Expr {
			return syntax.Expr{Kind: api.ECase, Kids: []syntax.Expr{x}, Alts: []syntax.Alt{{Con: "K", Vars: []string{name(i)}, Body: k}, {Con: "L", Body: x}}}
		}, deep},
		"EAnn": {func(_ int, k syntax.Expr) syntax.Expr {
			return syntax.Expr{Kind: api.EAnn, T: u, Kids: []syntax.Expr{k}}
		}, 1},
	} {
		isDeep(t, way, erase.Source(within(x, with.expr)), with.depth)
	}
}

// R1: likewise where lists are long.
func TestLongListsEnd(t *testing.T) {
	x, e := fc.Term{Kind: api.FCase, Kids: []fc.Term{{Kind: api.FVar, Name: "x"}}}, syntax.Expr{Kind: api.ECase, Kids: []syntax.Expr{v("x")}}
	for i := range deep {
		con, vars := "K"+strconv.Itoa(i), []string{"v" + strconv.Itoa(i)}
		x.Alts = append(x.Alts, fc.Alt{Con: con, Types: vars, Cos: vars, Vars: vars, Body: fc.Term{Kind: api.FVar, Name: vars[0]}})
		e.Alts = append(e.Alts, syntax.Alt{Con: con, Vars: vars, Body: v(vars[0])})
	}
	isLeft(t, "a case", erase.Term(x), e)
	isLeft(t, "a case", erase.Source(e), e)
}

// R4: empty lists are as nil ones.
func TestEmptyLists(t *testing.T) {
	x := fc.Term{Kind: api.FVar, Name: "x", Kids: []fc.Term{}, Alts: []fc.Alt{}}
	y := syntax.Expr{Kind: api.EVar, Name: "x", Kids: []syntax.Expr{}, Alts: []syntax.Alt{}}
	isLeft(t, "x", erase.Term(x), v("x"))
	isLeft(t, "x", erase.Source(y), v("x"))
	x = fc.Term{Kind: api.FCase, Kids: []fc.Term{x}, Alts: []fc.Alt{{Con: "K", Types: []string{}, Cos: []string{}, Vars: []string{}, Body: x}}}
	y = syntax.Expr{Kind: api.ECase, Kids: []syntax.Expr{y}, Alts: []syntax.Alt{{Con: "K", Vars: []string{}, Body: y}}}
	for _, got := range []syntax.Expr{erase.Term(x), erase.Source(y)} {
		if got.Print() != "case x of {K -> x}" {
			t.Errorf("%+v", got)
		}
	}
}

// Nothing is promised of trees that no text writes; but nothing panics.
func TestOtherTrees(t *testing.T) {
	for kind := -1; kind < 12; kind++ {
		for _, x := range []fc.Term{{Kind: kind}, {Kind: kind, Kids: []fc.Term{{Kind: kind}}}, {Kind: kind, Kids: make([]fc.Term, 3), Alts: make([]fc.Alt, 2)}} {
			erase.Term(x)
		}
		for _, e := range []syntax.Expr{{Kind: kind}, {Kind: kind, Kids: []syntax.Expr{{Kind: kind}}}, {Kind: kind, Kids: make([]syntax.Expr, 3), Alts: make([]syntax.Alt, 2)}} {
			erase.Source(e)
		}
	}
}

// R5: what is handed in is not changed, nor what stands behind the ends of its lists; not even where an answer is changed afterwards, as that shares nothing with it.
func TestNothingIsChanged(t *testing.T) {
	const more = "nothing of it"
	x := fc.Term{Kind: api.FCase, Kids: []fc.Term{{Kind: api.FVar, Name: "x"}, {Name: more}}[:1], Alts: []fc.Alt{{Con: "K", Vars: []string{"y", more}[:1]}, {Con: more}}[:1]}
	e := syntax.Expr{Kind: api.ECase, Kids: []syntax.Expr{v("x"), v(more)}[:1], Alts: []syntax.Alt{{Con: "K", Vars: []string{"y", more}[:1]}, {Con: more}}[:1]}
	for _, got := range []syntax.Expr{erase.Term(x), erase.Source(e)} {
		got.Alts[0].Vars = append(got.Alts[0].Vars, "z")
		got.Alts[0].Vars[0] = "z"
		got.Alts = append(got.Alts, syntax.Alt{})
		got.Kids = append(got.Kids, syntax.Expr{})
		got.Alts[0].Con, got.Kids[0].Name = "L", "z"
	}
	if x.Kids[:2][0].Name != "x" || x.Kids[:2][1].Name != more || x.Alts[:2][1].Con != more || x.Alts[0].Con != "K" || x.Alts[0].Vars[0] != "y" || x.Alts[0].Vars[:2][1] != more {
		t.Errorf("%+v", x)
	}
	if e.Kids[:2][0].Name != "x" || e.Kids[:2][1].Name != more || e.Alts[:2][1].Con != more || e.Alts[0].Con != "K" || e.Alts[0].Vars[0] != "y" || e.Alts[0].Vars[:2][1] != more {
		t.Errorf("%+v", e)
	}
}
