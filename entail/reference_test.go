package entail_test

import (
	"cmp"
	"slices"
	"strconv"
	"strings"

	"savant/api"
	"savant/coerce"
	"savant/types"
	"savant/unify"
)

// The reference takes the variables of givens for chapter 4's unknowns, so numbered that the first one by order has the least number, and unknowns for constructors that stand nowhere else.
type reference struct {
	names []string
	known []unify.Known
}

const constant = "Unknown_"

// newReference is handed the types, too, that it will be asked for.
func newReference(givens []coerce.Given, order []string, asked ...types.Type) (reference, api.Errno) {
	for i, g := range givens {
		if slices.ContainsFunc(givens[:i], func(h coerce.Given) bool { return g.Name == h.Name }) {
			return reference{}, api.ErrArg
		}
	}
	for _, g := range givens {
		if strings.Contains(g.L.Print()+g.R.Print(), "forall ") {
			return reference{}, api.ErrPoly
		}
		asked = append(asked, g.L, g.R)
	}
	x := reference{names: inOrder(order, asked)}
	var l []unify.Eq
	for _, g := range givens {
		l = append(l, unify.Eq{L: x.withUnknowns(g.L), R: x.withUnknowns(g.R)})
	}
	known, e := unify.Unify(l)
	if e != api.OK {
		return reference{}, api.ErrContra
	}
	x.known = known
	return x, api.OK
}

// inOrder are all names that are free in types.
func inOrder(order []string, l []types.Type) []string {
	var names []string
	for _, t := range l {
		names = append(names, t.Free()...)
	}
	place := func(name string) int {
		if i := slices.Index(order, name); i >= 0 {
			return i
		}
		return len(order)
	}
	slices.SortFunc(names, func(a, b string) int {
		return cmp.Or(cmp.Compare(place(a), place(b)), strings.Compare(a, b))
	})
	return slices.Compact(names)
}

func (x reference) withUnknowns(t types.Type) types.Type {
	for _, n := range t.Metas() {
		t = t.Fill(n, con(constant+strconv.Itoa(n)))
	}
	for i, name := range x.names {
		t = t.Put(name, meta(i))
	}
	return t
}

func (x reference) norm(t types.Type) types.Type {
	t = unify.Apply(x.known, x.withUnknowns(t))
	for i, name := range x.names {
		t = t.Fill(i, v(name))
	}
	return withoutConstants(t)
}

func withoutConstants(t types.Type) types.Type {
	if number, ok := strings.CutPrefix(t.Name, constant); ok {
		n, _ := strconv.Atoi(number)
		return meta(n)
	}
	t.Args = slices.Clone(t.Args)
	for i, a := range t.Args {
		t.Args[i] = withoutConstants(a)
	}
	return t
}
