package types_test

import (
	"slices"
	"strconv"
	"strings"
	"testing"

	"savant/api"
	"savant/lex"
	"savant/types"
)

// texts are those of tokens, with a blank between each.
func texts(l []api.Token) string {
	var words []string
	for _, x := range l {
		words = append(words, x.Text)
	}
	return strings.Join(words, " ")
}

// lists hands over each list of n words.
func lists(n int, words []string, do func(l []string)) {
	var extend func(l []string)
	extend = func(l []string) {
		if len(l) == n {
			do(l)
			return
		}
		for _, w := range words {
			extend(append(l[:len(l):len(l)], w))
		}
	}
	extend(nil)
}

// B1: all short lists of tokens are a type, or none, as the grammar says.
func TestShortTexts(t *testing.T) {
	words := []string{"a", "T", "?1", "(", ")", "->", "forall", "."}
	for n := range 7 {
		lists(n, words, func(l []string) {
			s := strings.Join(l, " ")
			want := whole(l)
			x, e := types.Parse(s)
			if want == "" && e != api.ErrType || want != "" && (e != api.OK || tree(x) != want) {
				t.Errorf("Parse(%q) answers %s, %v, not %q", s, tree(x), e, want)
			}
		})
	}
}

// B1: of all short lists of tokens Read goes as far as a type can go on.
func TestShortReads(t *testing.T) {
	words := []string{"a", "T", "?1", "(", ")", "->", "forall", ".", "~"}
	for n := range 6 {
		lists(n, words, func(l []string) {
			tokens, _, _ := lex.Scan(strings.Join(l, " "))
			want, wantRest := read(l)
			x, rest, ok := types.Read(tokens)
			if ok != (want != "") || ok && (tree(x) != want || texts(rest) != strings.Join(wantRest, " ")) || !ok && len(rest) > 0 {
				t.Errorf("Read(%q) answers %s, %q, %v, not %s, %q", l, tree(x), texts(rest), ok, want, wantRest)
			}
		})
	}
}

// small are all types of at most so many parts within one another, of few names.
func small(deep int) []types.Type {
	if deep == 1 {
		return []types.Type{v("a"), v("b"), v("x0"), meta(1), meta(2), con("T")}
	}
	less := small(deep - 1)
	l := slices.Clone(less)
	for _, x := range less {
		l = append(l, con("T", x), all("a", x), all("b", x), all("x0", x))
		for _, y := range less {
			l = append(l, con("T", x, y), fun(x, y))
		}
	}
	return l
}

// some are one of each step types, spread over all of l.
func some(l []types.Type, step int) []types.Type {
	var few []types.Type
	for i := step / 2; i < len(l); i += step {
		few = append(few, l[i])
	}
	return few
}

// B2, B6: what is printed is read as what it was, has the blanks that the chapter asks for, and no parentheses that may be left out.
func TestSmallPrint(t *testing.T) {
	for _, x := range small(3) {
		s := x.Print()
		l, _, _ := lex.Scan(s)
		if y, e := types.Parse(s); e != api.OK || tree(y) != tree(x) {
			t.Errorf("%s is printed %q, and that read as %s, %v", tree(x), s, tree(y), e)
		}
		if s != spaced(l) || strings.Contains(s, ". forall") {
			t.Errorf("%q is not %q", s, spaced(l))
		}
		for i := range l {
			if l[i].Text == "(" && whole(without(l, i)) == tree(x) {
				t.Errorf("%q has parentheses at %d that may be left out", s, l[i].At)
			}
		}
	}
}

// spaced puts tokens together with the blanks that stand in what is printed.
func spaced(l []api.Token) string {
	s := texts(l)
	return strings.NewReplacer("( ", "(", " )", ")", " .", ".").Replace(s)
}

// without are the tokens' texts but for the parenthesis at i and the one that closes it.
func without(l []api.Token, i int) []string {
	var kept []string
	open := 0
	for j, x := range l {
		switch {
		case j < i:
		case x.Text == "(":
			open++
		case x.Text == ")":
			open--
		}
		closes := j > i && open == 0 && x.Text == ")"
		if closes {
			open = -len(l)
		}
		if j != i && !closes {
			kept = append(kept, x.Text)
		}
	}
	return kept
}

// B3, B4: depth, for alls, what is free, and unknowns of all small types.
func TestSmallParts(t *testing.T) {
	for _, x := range small(3) {
		if x.Depth() != depth(x) || x.Poly() != poly(x) {
			t.Errorf("%q: %d, %v", x.Print(), x.Depth(), x.Poly())
		}
		var free []string
		var metas []int
		for _, w := range strings.FieldsFunc(nameless(x, nil, nil), func(c rune) bool { return strings.ContainsRune("() ", c) }) {
			if n, err := strconv.Atoi(strings.TrimPrefix(w, "?")); err == nil && w[0] == '?' && !slices.Contains(metas, n) {
				metas = append(metas, n)
			}
			if isVar(w) && !slices.Contains(free, w) {
				free = append(free, w)
			}
		}
		if !slices.Equal(x.Free(), free) || !slices.Equal(x.Metas(), metas) {
			t.Errorf("%q: %v, %v", x.Print(), x.Free(), x.Metas())
		}
	}
}

// B3, B6: the canonical text of each small type is a type that is the same, with the names that the chapter asks for.
func TestSmallCanon(t *testing.T) {
	for _, x := range small(3) {
		y, e := types.Parse(x.Canon())
		if e != api.OK || nameless(y, nil, nil) != nameless(x, nil, nil) || !x.Same(y) || !y.Same(x) || y.Print() != x.Canon() || y.Canon() != x.Canon() {
			t.Errorf("%q has the canonical text %q", x.Print(), x.Canon())
		}
		n := 0
		for _, name := range binders(y) {
			for slices.Contains(x.Free(), "x"+strconv.Itoa(n)) {
				n++
			}
			if name != "x"+strconv.Itoa(n) {
				t.Errorf("%q has the canonical text %q", x.Print(), x.Canon())
			}
			n++
		}
	}
}

// binders are the names that for alls bind, in the order in which they are written.
func binders(x types.Type) []string {
	var l []string
	if x.Kind == api.All {
		l = append(l, x.Name)
	}
	for _, a := range x.Args {
		l = append(l, binders(a)...)
	}
	return l
}

// B3, B6: two types are the same, and have one canonical text, if they are alike but for bound names.
func TestSmallSame(t *testing.T) {
	l := append(small(2), some(small(3), 29)...)
	var plain, canon []string
	for _, x := range l {
		plain = append(plain, nameless(x, nil, nil))
		canon = append(canon, x.Canon())
	}
	for i, x := range l {
		for j, y := range l {
			if x.Same(y) != (plain[i] == plain[j]) || (canon[i] == canon[j]) != (plain[i] == plain[j]) {
				t.Errorf("%q and %q: %v", x.Print(), y.Print(), x.Same(y))
			}
		}
	}
}

// B5, B6: what is put stands in each place, and is not caught; what is not there is not put.
func TestSmallPut(t *testing.T) {
	us := some(small(2), 3)
	for i, x := range small(3) {
		u := us[i%len(us)]
		put := nameless(u, nil, nil)
		for _, name := range []string{"a", "b", "x0", "x1", "T"} {
			isPut(t, x.Put(name, u), x, map[string]string{name: put})
			if !slices.Contains(x.Free(), name) && tree(x.Put(name, u)) != tree(x) {
				t.Errorf("%q: %s is put, and is not there", x.Print(), name)
			}
		}
		for _, n := range []int{0, 1, 2} {
			isPut(t, x.Fill(n, u), x, map[string]string{"?" + strconv.Itoa(n): put})
			if !slices.Contains(x.Metas(), n) && tree(x.Fill(n, u)) != tree(x) {
				t.Errorf("%q: ?%d is filled, and is not there", x.Print(), n)
			}
		}
	}
}

func isPut(t *testing.T, got, x types.Type, put map[string]string) {
	t.Helper()
	if nameless(got, nil, nil) != nameless(x, nil, put) {
		t.Errorf("%q with %v is %q", x.Print(), put, got.Print())
	}
	isWritable(t, got)
}

// Whatever text is a type is printed as one that is read again as it.
func FuzzParse(f *testing.F) {
	for _, s := range []string{"", "forall a.forall b . (a->T (b))->b", "T a (U b) ?3 -> (c -> d)", "a b", "forall x0. x0 -> a", "T )"} {
		f.Add(s)
	}
	f.Fuzz(func(t *testing.T, s string) {
		x, e := types.Parse(s)
		if e != api.OK {
			return
		}
		if len(x.Print()) <= api.MaxInput {
			isWritable(t, x)
		}
		if y, e := types.Parse(x.Canon()); len(x.Canon()) <= api.MaxInput && (e != api.OK || !x.Same(y)) {
			t.Errorf("%q has the canonical text %q", s, x.Canon())
		}
	})
}
