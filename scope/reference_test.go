package scope_test

import (
	"slices"
	"strconv"

	"savant/api"
	"savant/lex"
	"savant/syntax"
)

// once leaves each name out that stands further ahead too.
func once(l []string) []string {
	var left []string
	for _, name := range l {
		if !slices.Contains(left, name) {
			left = append(left, name)
		}
	}
	return left
}

func without(l []string, names ...string) []string {
	return slices.DeleteFunc(slices.Clone(l), func(name string) bool { return slices.Contains(names, name) })
}

// freeIn are the variables that are free, each as often as it is: what is free in the parts but for what the expression binds in them.
func freeIn(e syntax.Expr) []string {
	var l []string
	switch e.Kind {
	case api.EVar:
		return []string{e.Name}
	case api.ELam:
		return without(freeIn(e.Kids[0]), e.Name)
	case api.ELet:
		return slices.Concat(freeIn(e.Kids[0]), without(freeIn(e.Kids[1]), e.Name))
	}
	for _, k := range e.Kids {
		l = append(l, freeIn(k)...)
	}
	for _, a := range e.Alts {
		l = append(l, without(freeIn(a.Body), a.Vars...)...)
	}
	return l
}

// untyped is an expression with all types left out.
func untyped(e syntax.Expr) syntax.Expr {
	if e.Kind == api.EAnn {
		return untyped(e.Kids[0])
	}
	e.Told = false
	e.Kids, e.Alts = slices.Clone(e.Kids), slices.Clone(e.Alts)
	for i := range e.Kids {
		e.Kids[i] = untyped(e.Kids[i])
	}
	for i := range e.Alts {
		e.Alts[i].Body = untyped(e.Alts[i].Body)
	}
	return e
}

// written is what an expression's text has, as it is written: its constructors, the names that it binds, and those of each alternative.
type written struct {
	cons, bound []string
	alts        [][]string
}

// writtenIn goes through the tokens of an expression's text, and knows nothing of its tree: without types all constructors are those of expressions and alternatives, and what stands behind `\` and `let`, and between an alternative's constructor and its `->`, is bound.
func writtenIn(e syntax.Expr) (w written) {
	l, _, _ := lex.Scan(untyped(e).Print())
	inHead := false
	for i, x := range l {
		ahead := ""
		if i > 0 {
			ahead = l[i-1].Text
		}
		switch {
		case x.Kind == api.TokCon:
			w.cons = append(w.cons, x.Text)
			if inHead = ahead == "{" || ahead == ";"; inHead {
				w.alts = append(w.alts, nil)
			}
		case x.Kind != api.TokVar:
			inHead = false
		case inHead:
			w.alts[len(w.alts)-1] = append(w.alts[len(w.alts)-1], x.Text)
			w.bound = append(w.bound, x.Text)
		case ahead == `\` || ahead == "let":
			w.bound = append(w.bound, x.Text)
		}
	}
	return w
}

// wrong is something that is wrong with a program, and where it comes in the order in which the chapter looks.
type wrong struct {
	rank []int
	name string
	e    api.Errno
}

// allWrong is all that is wrong with a program: each thing is asked of all the names that it is about.
func allWrong(l []syntax.Decl) []wrong {
	var all []wrong
	for i, d := range l {
		earlier := l[:i]
		switch d.Kind {
		case api.DeclData:
			if d.Name == "Any" || slices.Contains(have(earlier, api.DeclData), d.Name) {
				all = append(all, wrong{[]int{0, i, 0}, d.Name, api.ErrTwice})
			}
			all = append(all, repeated(d.Params, 0, 0, i, 1)...)
			cons := consOf(earlier)
			all = append(all, repeated(append(cons, consOf(l[i:i+1])...), len(cons), 0, i, 2)...)
		case api.DeclSig:
			if slices.Contains(have(earlier, api.DeclSig), d.Name) {
				all = append(all, wrong{[]int{0, i}, d.Name, api.ErrTwice})
			}
			if !slices.Contains(have(l, api.DeclBind), d.Name) {
				all = append(all, wrong{[]int{1, i}, d.Name, api.ErrAlone})
			}
		case api.DeclBind:
			if slices.Contains(have(earlier, api.DeclBind), d.Name) {
				all = append(all, wrong{[]int{0, i}, d.Name, api.ErrTwice})
			}
			all = append(all, wrongIn(d.E, have(l, api.DeclBind), consOf(l), i)...)
		}
	}
	return all
}

// wrongIn is all that is wrong with the expression of the i-th declaration.
func wrongIn(e syntax.Expr, binds, cons []string, i int) []wrong {
	var all []wrong
	w := writtenIn(e)
	for k, name := range w.bound {
		if slices.Contains(binds, name) {
			all = append(all, wrong{[]int{2, i, 0, k}, name, api.ErrTwice})
		}
	}
	for k, vars := range w.alts {
		all = append(all, repeated(vars, 0, 2, i, 1, k)...)
	}
	for k, name := range freeIn(e) {
		if !slices.Contains(binds, name) {
			all = append(all, wrong{[]int{2, i, 2, k}, name, api.ErrUnbound})
		}
	}
	for k, name := range w.cons {
		if !slices.Contains(cons, name) {
			all = append(all, wrong{[]int{2, i, 3, k}, name, api.ErrUnbound})
		}
	}
	return all
}

// repeated are those of names, the from-th one and those behind it, that stand ahead too.
func repeated(names []string, from int, rank ...int) []wrong {
	var all []wrong
	for k := from; k < len(names); k++ {
		if slices.Contains(names[:k], names[k]) {
			all = append(all, wrong{append(slices.Clone(rank), k), names[k], api.ErrTwice})
		}
	}
	return all
}

// have are the names of a program's declarations of a kind.
func have(l []syntax.Decl, kind int) []string {
	var names []string
	for _, d := range l {
		if d.Kind == kind {
			names = append(names, d.Name)
		}
	}
	return names
}

func consOf(l []syntax.Decl) []string {
	var names []string
	for _, d := range l {
		for _, c := range d.Cons {
			names = append(names, c.Name)
		}
	}
	return names
}

// checked is what Check is to answer; in which part of the chapter's order the fault was found, in words.
func checked(l []syntax.Decl) (name string, e api.Errno, part string) {
	all := allWrong(l)
	if len(all) == 0 {
		return "", api.OK, "none"
	}
	w := slices.MinFunc(all, func(a, b wrong) int { return slices.Compare(a.rank, b.rank) })
	part = strconv.Itoa(w.rank[0])
	if len(w.rank) > 2 {
		part += "," + strconv.Itoa(w.rank[2])
	}
	return w.name, w.e, part
}

// renamed is an expression with another name for each that is bound in it: name tells it, of how many bind around it. What one alternative binds twice gets one name.
func renamed(e syntax.Expr, stand map[string]string, around int, name func(around int) string) syntax.Expr {
	within := func(e syntax.Expr, bound ...string) (syntax.Expr, []string) {
		inner, news := map[string]string{}, []string{}
		for from, to := range stand {
			inner[from] = to
		}
		for i, old := range bound {
			if k := slices.Index(bound, old); k < i {
				news = append(news, news[k])
				continue
			}
			news = append(news, name(around+i))
			inner[old] = news[i]
		}
		return renamed(e, inner, around+len(bound), name), news
	}
	e.Kids, e.Alts = slices.Clone(e.Kids), slices.Clone(e.Alts)
	binds := e.Name
	for i, k := range e.Kids {
		if e.Kind == api.ELam || e.Kind == api.ELet && i == 1 {
			var news []string
			e.Kids[i], news = within(k, binds)
			e.Name = news[0]
			continue
		}
		e.Kids[i], _ = within(k)
	}
	for i, a := range e.Alts {
		e.Alts[i].Body, e.Alts[i].Vars = within(a.Body, a.Vars...)
	}
	if new, is := stand[e.Name]; is && e.Kind == api.EVar {
		e.Name = new
	}
	return e
}
