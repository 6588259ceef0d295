package unify_test

import (
	"math/rand"
	"slices"
	"testing"

	"savant/api"
	"savant/types"
	"savant/unify"
)

// small are the texts of all types of at most so many parts within one another, of few names.
func small(deep int) []string {
	if deep == 1 {
		return []string{"?1", "?2", "?3", "a", "U"}
	}
	less := small(deep - 1)
	l := slices.Clone(less)
	for _, x := range less {
		l = append(l, "T ("+x+")", "forall a. "+x, "forall b. "+x)
		for _, y := range less {
			l = append(l, "("+x+") -> "+y)
		}
	}
	return l
}

func smallTypes(t *testing.T, deep int) []types.Type {
	var l []types.Type
	for _, s := range small(deep) {
		l = append(l, parsed(t, s))
	}
	return l
}

// isByTheLetter asks for what the chapter's way tells, which is told too.
func isByTheLetter(t *testing.T, l []unify.Eq) ([]unify.Known, api.Errno) {
	t.Helper()
	known, e := byTheLetter(l)
	if got, want := told(unify.Unify(l)), told(known, e); got != want {
		t.Errorf("Unify(%q) answers %q, not %q", written(l), got, want)
	}
	return known, e
}

// D1: of each two small types the way's answer is told, and each answer is met.
func TestSmallEquations(t *testing.T) {
	met := map[api.Errno]int{}
	two, three := smallTypes(t, 2), smallTypes(t, 3)
	for i, l := range three {
		for j, r := range three {
			if (i >= len(two) || j >= len(two)) && (i*len(three)+j)%97 != 0 {
				continue
			}
			_, e := isByTheLetter(t, []unify.Eq{{L: l, R: r}})
			met[e]++
		}
	}
	for _, e := range []api.Errno{api.OK, api.ErrClash, api.ErrOccurs, api.ErrPoly, api.ErrEscape} {
		if met[e] < 20 {
			t.Errorf("%v is met %d times", e, met[e])
		}
	}
}

// some are lists of equations of small types, the same ones each time.
func some(t *testing.T, n int) [][]unify.Eq {
	var ls [][]unify.Eq
	random := rand.New(rand.NewSource(1))
	two, three := smallTypes(t, 2), smallTypes(t, 3)
	pick := func() types.Type {
		if random.Intn(3) > 0 {
			return two[random.Intn(len(two))]
		}
		return three[random.Intn(len(three))]
	}
	for range n {
		var l []unify.Eq
		for range 1 + random.Intn(4) {
			l = append(l, unify.Eq{L: pick(), R: pick()})
		}
		ls = append(ls, l)
	}
	return ls
}

// D1: of lists of equations the way's answer is told.
func TestSomeLists(t *testing.T) {
	for _, l := range some(t, 100000) {
		isByTheLetter(t, l)
	}
}

// D2: with what is told both sides of each equation are the same, and nothing that is told is in it.
func TestToldSolves(t *testing.T) {
	solved := 0
	for _, l := range some(t, 50000) {
		known, e := unify.Unify(l)
		if e != api.OK {
			continue
		}
		solved += min(len(known), 1)
		if !solves(known, l) {
			t.Errorf("Unify(%q) answers %q", written(l), told(known, e))
		}
		for _, k := range known {
			for _, n := range k.T.Metas() {
				if slices.ContainsFunc(known, func(k unify.Known) bool { return k.Meta == n }) {
					t.Errorf("Unify(%q) answers %q", written(l), told(known, e))
				}
			}
		}
	}
	if solved < 2000 {
		t.Errorf("only %d are solved", solved)
	}
}

func solves(known []unify.Known, l []unify.Eq) bool {
	return !slices.ContainsFunc(l, func(q unify.Eq) bool { return !unify.Apply(known, q.L).Same(unify.Apply(known, q.R)) })
}

// D2: whatever solves the equations solves what is told, and where an error is told nothing does.
func TestMostGeneral(t *testing.T) {
	texts := []string{"a", "U", "T a", "T U", "T (T U)", "U -> a", "U -> U", "T U -> U", "?9"}
	var tries [][]unify.Known
	for _, x := range texts {
		for _, y := range texts {
			for _, z := range texts {
				tries = append(tries, []unify.Known{{Meta: 1, T: parsed(t, x)}, {Meta: 2, T: parsed(t, y)}, {Meta: 3, T: parsed(t, z)}})
			}
		}
	}
	found := 0
	for _, l := range some(t, 1000) {
		known, e := unify.Unify(l)
		var toldToo []unify.Eq
		for _, k := range known {
			toldToo = append(toldToo, unify.Eq{L: meta(k.Meta), R: k.T})
		}
		for _, try := range tries {
			if !solves(try, l) {
				continue
			}
			found++
			if e != api.OK || !solves(try, toldToo) {
				t.Fatalf("Unify(%q) answers %q, and %q solves it", written(l), told(known, e), told(try, api.OK))
			}
		}
	}
	if found < 500 {
		t.Errorf("only %d are found", found)
	}
}

// D2: the order of equations, and which side comes first, does not matter for whether there is an answer; nor for which.
func TestOrderDoesNotMatter(t *testing.T) {
	random := rand.New(rand.NewSource(2))
	for _, l := range some(t, 50000) {
		known, e := unify.Unify(l)
		others := slices.Clone(l)
		random.Shuffle(len(others), func(i, j int) { others[i], others[j] = others[j], others[i] })
		for i, q := range others {
			if random.Intn(2) > 0 {
				others[i] = unify.Eq{L: q.R, R: q.L}
			}
		}
		again, e2 := unify.Unify(others)
		if (e == api.OK) != (e2 == api.OK) || e == api.OK && told(known, e) != told(again, e2) {
			t.Errorf("Unify(%q) answers %q, and %q", written(l), told(known, e), told(again, e2))
		}
	}
}

// D1: whatever the equations are, the way's answer is told, and names that are bound do not matter.
func FuzzUnify(f *testing.F) {
	for _, s := range [][4]string{{"?1 -> ?2", "Int -> ?1", "?2", "?1"}, {"forall a. a -> ?1", "forall b. b -> b", "a", "b"}, {"forall a b. T a ?1 b", "forall b a. T b ?2 a", "?1", "T ?2"}} {
		f.Add(s[0], s[1], s[2], s[3])
	}
	f.Fuzz(func(t *testing.T, a, b, c, d string) {
		var l []unify.Eq
		for _, s := range [][2]string{{a, b}, {c, d}} {
			x, e := types.Parse(s[0])
			y, e2 := types.Parse(s[1])
			if e != api.OK || e2 != api.OK || slices.Max(append(append(x.Metas(), y.Metas()...), 0)) >= 20 {
				return
			}
			l = append(l, unify.Eq{L: x, R: y})
		}
		isByTheLetter(t, l)
		for i, q := range l {
			x, e := types.Parse(q.L.Canon())
			y, e2 := types.Parse(q.R.Canon())
			if e != api.OK || e2 != api.OK {
				return
			}
			l[i] = unify.Eq{L: x, R: y}
		}
		isByTheLetter(t, l)
	})
}
