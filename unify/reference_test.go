package unify_test

import (
	"slices"
	"strconv"
	"strings"

	"savant/api"
	"savant/types"
	"savant/unify"
)

// way goes the chapter's way to the letter: whole types are filled, and new constants are put into them.
type way struct {
	known     map[int]types.Type
	constants int
}

const constant = "constant_"

func byTheLetter(l []unify.Eq) ([]unify.Known, api.Errno) {
	w := way{known: map[int]types.Type{}}
	for len(l) > 0 {
		next, e := w.step(w.filled(l[0].L), w.filled(l[0].R))
		if e != api.OK {
			return nil, e
		}
		l = append(next, l[1:]...)
	}
	var told []unify.Known
	for n := range 20 {
		if u, ok := w.known[n]; ok {
			told = append(told, unify.Known{Meta: n, T: w.filled(u)})
		}
	}
	return told, api.OK
}

func (w *way) filled(t types.Type) types.Type {
	for {
		i := slices.IndexFunc(t.Metas(), func(n int) bool { return w.known[n].Kind != 0 })
		if i < 0 {
			return t
		}
		t = t.Fill(t.Metas()[i], w.known[t.Metas()[i]])
	}
}

func (w *way) step(l, r types.Type) ([]unify.Eq, api.Errno) {
	switch {
	case l.Same(r):
		return nil, api.OK
	case l.Kind == api.Meta && r.Kind == api.Meta:
		return nil, w.learn(max(l.N, r.N), meta(min(l.N, r.N)))
	case l.Kind == api.Meta:
		return nil, w.learn(l.N, r)
	case r.Kind == api.Meta:
		return nil, w.learn(r.N, l)
	case l.Kind == api.Con && r.Kind == api.Con && l.Name == r.Name && len(l.Args) == len(r.Args), l.Kind == api.Fun && r.Kind == api.Fun:
		var next []unify.Eq
		for i := range l.Args {
			next = append(next, unify.Eq{L: l.Args[i], R: r.Args[i]})
		}
		return next, api.OK
	case l.Kind == api.All && r.Kind == api.All:
		w.constants++
		c := types.Type{Kind: api.Var, Name: constant + strconv.Itoa(w.constants)}
		return []unify.Eq{{L: l.Args[0].Put(l.Name, c), R: r.Args[0].Put(r.Name, c)}}, api.OK
	}
	return nil, api.ErrClash
}

func (w *way) learn(n int, t types.Type) api.Errno {
	switch {
	case slices.Contains(t.Metas(), n):
		return api.ErrOccurs
	case t.Poly():
		return api.ErrPoly
	case slices.ContainsFunc(t.Free(), func(name string) bool { return strings.HasPrefix(name, constant) }):
		return api.ErrEscape
	}
	w.known[n] = t
	return api.OK
}
