package coerce_test

import (
	"math/rand"
	"slices"
	"strconv"
	"strings"
	"testing"

	"savant/api"
	"savant/coerce"
	"savant/types"
)

// E1: of all lists of a few tokens those are coercions that the table says, and they are read as it says.
func TestSmallTexts(t *testing.T) {
	words := []string{"c", "T", "0", "(", ")", "<", ">", "Sym", "Con", "Nth"}
	read := 0
	var try func(l []string, room int)
	try = func(l []string, room int) {
		read += isReadAsTold(t, l)
		for _, w := range words {
			if room > 0 {
				try(append(l, w), room-1)
			}
		}
	}
	try(nil, 5)
	if read < 20 {
		t.Errorf("only %d are coercions", read)
	}
}

// isReadAsTold asks Parse for what the reference answers, and tells how many coercions that is.
func isReadAsTold(t *testing.T, l []string) int {
	t.Helper()
	s, want := strings.Join(l, " "), whole(l)
	c, e := coerce.Parse(s)
	switch {
	case want == "" && e != api.ErrCo:
		t.Errorf("Parse(%q) answers %s, %v", s, tree(c), e)
	case want != "" && (e != api.OK || tree(c) != want):
		t.Errorf("Parse(%q) answers %s, %v, not %s", s, tree(c), e, want)
	}
	return min(len(want), 1)
}

// maker makes coercions, the same ones each time.
type maker struct{ *rand.Rand }

func newMaker(seed int64) maker { return maker{rand.New(rand.NewSource(seed))} }

func pick[T any](m maker, l ...T) T { return l[m.Intn(len(l))] }

func (m maker) typ(room int) types.Type {
	if room == 0 || m.Intn(4) == 0 {
		return pick(m, v("a"), v("b"), v("c"), con("U"), types.Type{Kind: api.Meta, N: 1})
	}
	switch m.Intn(4) {
	case 0:
		return con("T", m.typ(room-1))
	case 1:
		return con("P", m.typ(room-1), m.typ(room-1))
	case 2:
		return fun(m.typ(room-1), m.typ(room-1))
	}
	return all(pick(m, "a", "b"), m.typ(room-1))
}

func (m maker) co(room int) coerce.Co {
	if room == 0 || m.Intn(6) == 0 {
		return pick(m, given(pick(m, "c", "d", "e")), refl(m.typ(2)))
	}
	k := func() coerce.Co { return m.co(room - 1) }
	switch m.Intn(9) {
	case 0:
		return of(api.CoSym, k())
	case 1:
		return m.trans(k())
	case 2:
		return ofCon(pick(m, "T", "P"), slices.Repeat([]coerce.Co{k()}, m.Intn(3))...)
	case 3:
		return of(api.CoFun, k(), k())
	case 4:
		return m.nth(k())
	case 5:
		return m.nth(pick(m, of(api.CoFun, k(), k()), ofCon("T", k())))
	case 6:
		return inst(pick(m, k(), ofAll(pick(m, "a", "b"), k()), refl(all(pick(m, "a", "b"), m.typ(2)))), m.typ(2))
	}
	return ofAll(pick(m, "a", "b", "c"), k())
}

func (m maker) nth(k coerce.Co) coerce.Co { return nth(m.Intn(2), k) }

// trans puts behind k what often goes on from where k says it comes.
func (m maker) trans(k coerce.Co) coerce.Co {
	return of(api.CoTrans, k, pick(m, of(api.CoSym, k), m.co(1), of(api.CoTrans, of(api.CoSym, k), k)))
}

func (m maker) givens() []coerce.Given {
	var l []coerce.Given
	for range m.Intn(5) {
		x := m.typ(2)
		l = append(l, coerce.Given{Name: pick(m, "c", "d"), L: x, R: pick(m, x, m.typ(2), all("a", m.typ(1)))})
	}
	return l
}

// isSaidByTheLetter asks Says for what the chapter's rules tell, and tells whether that is something.
func isSaidByTheLetter(t *testing.T, gs []coerce.Given, c coerce.Co) bool {
	t.Helper()
	x := letter{givens: gs}
	l, r, ok := x.says(c)
	want := nothing
	if ok {
		want = told(l, r, api.OK)
	}
	if got := told(coerce.Says(gs, c)); got != want {
		t.Errorf("%q says %q, not %q", c.Print(), got, want)
	}
	return ok
}

// E2: of many coercions that is told which the rules tell, and each kind often says something, and often nothing.
func TestManyCoercions(t *testing.T) {
	met := map[int][2]int{}
	m := newMaker(1)
	for range 200000 {
		c := m.co(4)
		counts := met[c.Kind]
		if isSaidByTheLetter(t, m.givens(), c) {
			counts[0]++
		} else {
			counts[1]++
		}
		met[c.Kind] = counts
	}
	for kind := api.CoVar; kind <= api.CoInst; kind++ {
		if met[kind][0] < 1000 || met[kind][1] < 1000 && kind != api.CoRefl {
			t.Errorf("kind %d says something %d times, nothing %d times", kind, met[kind][0], met[kind][1])
		}
	}
}

// E1, E3: what was written is read; and tokens that are changed are read as the table says.
func TestManyTexts(t *testing.T) {
	m := newMaker(2)
	for range 20000 {
		c := m.co(4)
		if again, e := coerce.Parse(c.Print()); e != api.OK || tree(again) != tree(c) || again.Print() != c.Print() {
			t.Errorf("%q is read as %s, %v", c.Print(), tree(again), e)
		}
		l := strings.Fields(texts(tokens(t, m.co(2).Print())))
		if len(l) > 25 {
			continue
		}
		i, j := m.Intn(len(l)), m.Intn(len(l))
		switch m.Intn(3) {
		case 0:
			l = slices.Delete(l, i, i+1)
		case 1:
			l = slices.Insert(l, i, l[j])
		default:
			l[i], l[j] = l[j], l[i]
		}
		isReadAsTold(t, l)
	}
}

// E3: Sym of what says l ~ r says r ~ l. Where all givens say that a type is itself, all coercions do.
func TestWhatFollows(t *testing.T) {
	m := newMaker(3)
	for range 50000 {
		gs, c := m.givens(), m.co(4)
		l, r, e := coerce.Says(gs, c)
		if got, want := told(coerce.Says(gs, of(api.CoSym, c))), told(r, l, e); got != want {
			t.Errorf("Sym of %q says %q, not %q", c.Print(), got, want)
		}
		for i, g := range gs {
			gs[i].R = g.L
		}
		if l, r, _ := coerce.Says(gs, c); !l.Same(r) {
			t.Errorf("%q says %q", c.Print(), told(l, r, api.OK))
		}
	}
}

// E2: names that are bound do not matter, neither in types nor in coercions for all.
func TestBoundNamesDoNotMatter(t *testing.T) {
	m := newMaker(4)
	for range 20000 {
		gs, c := m.givens(), m.co(4)
		want := told(coerce.Says(gs, c))
		n := 0
		for i, g := range gs {
			gs[i].L, gs[i].R = parsedType(t, g.L.Canon()), parsedType(t, g.R.Canon())
		}
		if got := told(coerce.Says(gs, otherNames(t, c, &n))); got != want {
			t.Errorf("%q says %q, and %q with other names", c.Print(), want, got)
		}
	}
}

// otherNames is c with names that stand nowhere else in the places of all that are bound in it.
func otherNames(t *testing.T, c coerce.Co, n *int) coerce.Co {
	if c.T.Kind != 0 {
		c.T = parsedType(t, c.T.Canon())
	}
	kids := c.Kids
	c.Kids = nil
	for _, k := range kids {
		if c.Kind == api.CoAll {
			*n++
			name := "other_" + strconv.Itoa(*n)
			k, c.Name = named(k, c.Name, name), name
		}
		c.Kids = append(c.Kids, otherNames(t, k, n))
	}
	return c
}

// E1, E2: whatever the texts are, what is read is read again, and says what the rules tell.
func FuzzSays(f *testing.F) {
	for _, s := range [][3]string{{"a", "Int", "(Trans (Sym c) <a>)"}, {"T a", "T b", "(Nth 0 (Trans c <T b>))"}, {"a", "Int", "(Con P c (Fun <U> (Sym c)))"}, {"a", "b", "(All a (All e (Fun <e> (Fun c <a>))))"}, {"forall a. a", "forall b. T b", "(Inst (All a (Inst c <a -> e>)) <T a>)"}} {
		f.Add(s[0], s[1], s[2])
	}
	f.Fuzz(func(t *testing.T, l, r, s string) {
		x, e := types.Parse(l)
		y, e2 := types.Parse(r)
		c, e3 := coerce.Parse(s)
		// The reference takes too long where types are great.
		if e != api.OK || e2 != api.OK || e3 != api.OK || len(s) > 150 || len(l)+len(r) > 60 {
			return
		}
		if again, e := coerce.Parse(c.Print()); e != api.OK || tree(again) != tree(c) {
			t.Errorf("%q is printed %q", s, c.Print())
		}
		isSaidByTheLetter(t, []coerce.Given{{Name: "c", L: x, R: y}}, c)
	})
}
