package coerce_test

import (
	"slices"
	"strconv"
	"strings"
	"testing"

	"savant/api"
	"savant/coerce"
	"savant/lex"
	"savant/types"
)

const deep = 1 << 16

// deepCos are coercions of 2^16 within one another, that say something where the given c does, which stands deepest within.
func deepCos() map[string]coerce.Co {
	c, a := given("c"), refl(v("a"))
	sym, trans, fun, cons, nths, forAlls, insts := c, c, c, c, c, c, c
	for i := range deep - 1 {
		sym, trans = of(api.CoSym, sym), of(api.CoTrans, trans, of(api.CoTrans, of(api.CoSym, c), c))
		fun, cons = of(api.CoFun, fun, a), ofCon("T", a, cons, c)
		name := "n" + strconv.Itoa(i)
		nths, forAlls = nth(0, ofCon("T", nths)), ofAll(name, of(api.CoFun, refl(v(name)), forAlls))
		insts = inst(ofAll("a", insts), v("b"))
	}
	return map[string]coerce.Co{"Sym": sym, "Trans": trans, "Fun": fun, "Con": cons, "Nth": nths, "All": forAlls, "Inst": insts}
}

// deepType has 2^16 types within one another.
func deepType() types.Type {
	x := v("b")
	for i := range deep - 1 {
		if i%3 == 0 {
			x = all([]string{"a", "b", "c"}[i/3%3], x)
		} else {
			x = fun(all("a", con("T", v("a"), v("b"))), x)
		}
	}
	return x
}

// E1, E2: each call ends with coercions and types of 2^16 within one another, in good time.
func TestDeepEnds(t *testing.T) {
	x := deepType()
	gs := []coerce.Given{{Name: "c", L: all("a", x), R: all("b", x)}}
	for way, c := range deepCos() {
		if l, r, e := coerce.Says(gs, c); e != api.OK || l.Kind == 0 || l.Kind != r.Kind {
			t.Errorf("%s: %v", way, e)
		}
		if got := told(coerce.Says(nil, c)); got != nothing {
			t.Errorf("%s: %.80s", way, got)
		}
		s := c.Print()
		if again, rest, ok := coerce.Read(written(s)); !ok || len(rest) > 0 || again.Print() != s {
			t.Errorf("%s is not read again", way)
		}
	}
}

// E2: likewise where names that many coercions for all have stand within all of these, and give way one by one.
func TestManyNamesEnd(t *testing.T) {
	var names, turned []types.Type
	for i := range deep / 2 {
		names = append(names, v("n"+strconv.Itoa(i)))
	}
	c := refl(con("T", names...))
	for _, x := range names {
		c = ofAll(x.Name, c)
	}
	// The last name is bound outermost; the first type is put into its places.
	for _, x := range names {
		c = inst(c, x)
	}
	for _, x := range slices.Backward(names) {
		turned = append(turned, x)
	}
	l, r, e := coerce.Says(nil, c)
	if want := con("T", turned...); e != api.OK || !l.Same(want) || !r.Same(want) {
		t.Error(e)
	}
}

// written are the tokens of a text that is longer than chapter 1 lets one be.
func written(s string) []api.Token {
	for _, sign := range []string{"(", ")", "<", ">"} {
		s = strings.ReplaceAll(s, sign, " "+sign+" ")
	}
	var l []api.Token
	for _, w := range strings.Fields(s) {
		x, _, _ := lex.Scan(w)
		l = append(l, x...)
	}
	return l
}

// read is the coercion of a text, however many stand within one another.
func read(t *testing.T, s string) coerce.Co {
	t.Helper()
	c, rest, ok := coerce.Read(tokens(t, s))
	if !ok || len(rest) > 0 {
		t.Fatalf("%q is no coercion", s)
	}
	return c
}

// doubled says of a type that is two of itself, that is two of itself, and so on, that it is itself: so often that none could write it.
func doubled(times int) string {
	return strings.Repeat("(Inst (All a ", times) + "(Fun <a> <a>)" + strings.Repeat(") <a -> a>)", times)
}

// split says of such a type the same as doubled, but puts together otherwise what there is less of.
func split(times int) string {
	return "(Fun " + doubled(times-1) + " " + doubled(times-1) + ")"
}

// E2: where types are great with what is put into them, each call ends all the same, in good time.
func TestGreatTypesEnd(t *testing.T) {
	const times = 40
	great := doubled(times)
	for _, x := range [][2]string{
		{"(Nth 0 (Con P <U> " + great + "))", "U ~ U"},
		{"(Nth 0 (Con P <U> (Trans " + great + " " + split(times) + ")))", "U ~ U"},
		{"(Nth 0 (Con P <U> (Trans " + great + " (Sym " + great + "))))", "U ~ U"},
		{"(Nth 0 (Con P <U> (Trans " + great + " " + doubled(times-1) + ")))", nothing},
		{"(Nth 0 (Con P <U> (Trans (Fun " + great + " <a>) (Fun " + great + " <b>))))", nothing},
		{"(Nth 0 (Con P <U> (All b (Trans (Inst (All a " + doubled(times-2) + ") <b>) (Inst (All a " + doubled(times-2) + ") <b>)))))", "U ~ U"},
		{strings.Repeat("(Nth 0 ", times+1) + great + strings.Repeat(")", times+1), "a ~ a"},
		{strings.Repeat("(Nth 1 ", times-9) + great + strings.Repeat(")", times-9), told(coerce.Says(nil, read(t, doubled(9))))},
	} {
		if got := told(coerce.Says(nil, read(t, x[0]))); got != x[1] {
			t.Errorf("%s says %.200s", x[0], got)
		}
	}
	l, r, e := coerce.Says(nil, read(t, "(All a "+great+")"))
	for range times {
		if e != api.OK || l.Kind != r.Kind || len(l.Args) != len(r.Args) {
			t.Fatal(e)
		}
		l, r = l.Args[0], r.Args[len(r.Args)-1]
	}
}
