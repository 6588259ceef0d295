package solve_test

import (
	"cmp"
	"slices"
	"strconv"
	"strings"

	"savant/api"
	"savant/coerce"
	"savant/entail"
	"savant/solve"
	"savant/types"
	"savant/unify"
)

// The reference goes by the chapter's words to the letter: types are trees, filled again and again, and each is Norm by the givens at its problem, which are asked for anew each time.
type reference struct {
	places []*refPlace
	homes  map[int]*refPlace
	binds  map[string]*refPlace
	known  map[int]types.Type
	bounds int // how many new constants there were
}

type refPlace struct {
	solve.Inner
	outer *refPlace
}

// around are p and all that it stands within, the innermost first.
func (p *refPlace) around() []*refPlace {
	var l []*refPlace
	for ; p != nil; p = p.outer {
		l = append(l, p)
	}
	return l
}

const newConstant = "new_"

func newReference(p solve.Problem) *reference {
	x := &reference{homes: map[int]*refPlace{}, binds: map[string]*refPlace{}, known: map[int]types.Type{}}
	x.lay(solve.Inner{P: p}, nil)
	return x
}

func (x *reference) lay(in solve.Inner, outer *refPlace) {
	p := &refPlace{Inner: in, outer: outer}
	x.places = append(x.places, p)
	for _, name := range in.Names {
		x.binds[name] = p
	}
	for _, n := range in.P.New {
		x.homes[n] = p
	}
	for _, k := range in.P.Inner {
		x.lay(k, p)
	}
}

// solve is Solve by the reference.
func (x *reference) solve() ([]unify.Known, api.Errno) {
	if e := x.wrong(); e != api.OK {
		return nil, e
	}
	for before := -1; ; {
		hold := 0
		for _, p := range x.places {
			for _, w := range p.P.Wants {
				if x.work(p, w.L, w.R) {
					hold++
				}
			}
		}
		if now := len(x.known)*1000 + hold; now == before {
			break
		} else {
			before = now
		}
	}
	return x.answer()
}

func (x *reference) wrong() api.Errno {
	var names, givens []string
	var news []int
	scope, poly := false, false
	for _, p := range x.places {
		names = append(names, p.Names...)
		news = append(news, p.P.New...)
		for _, g := range p.Givens {
			givens = append(givens, g.Name)
			scope = scope || x.isAstray(g.L, p, p.outer) || x.isAstray(g.R, p, p.outer)
			poly = poly || strings.Contains(g.L.Print()+g.R.Print(), "forall ")
		}
		for _, w := range p.P.Wants {
			scope = scope || x.isAstray(w.L, p, p) || x.isAstray(w.R, p, p)
		}
	}
	switch {
	case scope || isTwice(names) || isTwice(givens) || isTwice(news):
		return api.ErrScope
	case poly:
		return api.ErrPoly
	}
	return api.OK
}

func isTwice[V cmp.Ordered](l []V) bool {
	sorted := slices.Sorted(slices.Values(l))
	return len(slices.Compact(sorted)) < len(l)
}

func (x *reference) isAstray(t types.Type, names, unknowns *refPlace) bool {
	for _, name := range t.Free() {
		if p := x.binds[name]; p != nil && !slices.Contains(names.around(), p) {
			return true
		}
	}
	for _, n := range t.Metas() {
		if p := x.homes[n]; p == nil || !slices.Contains(unknowns.around(), p) {
			return true
		}
	}
	return false
}

// filled is t with what is known, again and again.
func (x *reference) filled(t types.Type) types.Type {
	for again := true; again; {
		again = false
		for _, n := range t.Metas() {
			if u, ok := x.known[n]; ok {
				t, again = t.Fill(n, u), true
			}
		}
	}
	return t
}

func (x *reference) givensAt(p *refPlace) []coerce.Given {
	var l []coerce.Given
	for _, q := range p.around() {
		for _, g := range q.Givens {
			g.L, g.R = x.filled(g.L), x.filled(g.R)
			if len(g.L.Metas())+len(g.R.Metas()) == 0 {
				l = append(l, g)
			}
		}
	}
	return l
}

func (x *reference) orderAt(p *refPlace) []string {
	var order []string
	for _, q := range x.places {
		for _, t := range q.types() {
			for _, name := range t.Free() {
				if x.binds[name] == nil {
					order = append(order, name)
				}
			}
		}
	}
	slices.Sort(order)
	for _, q := range slices.Backward(p.around()) {
		order = append(order, q.Names...)
	}
	return order
}

// types are those that stand in p's brackets, and in its wanted equations.
func (p *refPlace) types() []types.Type {
	var l []types.Type
	for _, g := range p.Givens {
		l = append(l, g.L, g.R)
	}
	for _, w := range p.P.Wants {
		l = append(l, w.L, w.R)
	}
	return l
}

func (x *reference) at(p *refPlace, t types.Type) (types.Type, api.Errno) {
	return entail.Norm(x.givensAt(p), x.orderAt(p), x.filled(t))
}

func (x *reference) contradicts(p *refPlace) bool {
	_, e := x.at(p, types.Type{Kind: api.Con, Name: "Int"})
	return e == api.ErrContra
}

func (x *reference) work(p *refPlace, l, r types.Type) bool {
	if x.contradicts(p) {
		return true
	}
	l, _ = x.at(p, l)
	r, _ = x.at(p, r)
	switch {
	case l.Same(r):
		return true
	case l.Kind == api.Meta && r.Kind == api.Meta:
		if l.N < r.N {
			l, r = r, l
		}
		return x.learn(p, l, r) || x.learn(p, r, l)
	case l.Kind == api.Meta:
		return x.learn(p, l, r)
	case r.Kind == api.Meta:
		return x.learn(p, r, l)
	case l.Kind == api.All && r.Kind == api.All:
		x.bounds++
		constant := v(newConstant + strconv.Itoa(x.bounds))
		return x.work(p, l.Args[0].Put(l.Name, constant), r.Args[0].Put(r.Name, constant))
	case l.Kind != r.Kind || l.Kind == api.Var || l.Kind == api.Con && l.Name != r.Name || len(l.Args) != len(r.Args):
		return false
	}
	all := true
	for i := range l.Args {
		if !x.work(p, l.Args[i], r.Args[i]) {
			all = false
		}
	}
	return all
}

func (x *reference) learn(p *refPlace, unknown, t types.Type) bool {
	if !x.mayBe(p, unknown.N, t) {
		return false
	}
	x.known[unknown.N] = t
	for _, n := range t.Metas() {
		if slices.Contains(x.homes[n].around(), x.homes[unknown.N]) {
			x.homes[n] = x.homes[unknown.N]
		}
	}
	return true
}

func (x *reference) mayBe(p *refPlace, unknown int, t types.Type) bool {
	home := x.homes[unknown]
	for q := p; q != home; q = q.outer {
		if len(q.Givens) > 0 {
			return false
		}
	}
	if t.Poly() || slices.Contains(t.Metas(), unknown) {
		return false
	}
	for _, name := range t.Free() {
		if binder := x.binds[name]; strings.HasPrefix(name, newConstant) || binder != nil && !slices.Contains(home.around(), binder) {
			return false
		}
	}
	return true
}

func (x *reference) answer() ([]unify.Known, api.Errno) {
	for _, p := range x.places {
		for _, w := range p.P.Wants {
			if !x.work(p, w.L, w.R) {
				return nil, api.ErrStuck
			}
		}
	}
	if slices.ContainsFunc(x.places, x.contradicts) {
		return nil, api.ErrContra
	}
	var all []int
	for n := range x.homes {
		all = append(all, n)
	}
	slices.Sort(all)
	// Of those that are one another the first one that is met has the least number.
	least := map[int]int{}
	for _, n := range all {
		if t := x.filled(meta(n)); t.Kind == api.Meta {
			if _, met := least[t.N]; !met {
				least[t.N] = n
			}
		}
	}
	var renamed []unify.Known
	for m, n := range least {
		renamed = append(renamed, unify.Known{Meta: m, T: meta(n)})
	}
	var l []unify.Known
	for _, n := range all {
		t, _ := x.at(x.homes[n], meta(n))
		if t = unify.Apply(renamed, t); t.Kind != api.Meta || t.N != n {
			l = append(l, unify.Known{Meta: n, T: t})
		}
	}
	return l, api.OK
}
