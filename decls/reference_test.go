package decls_test

import (
	"slices"
	"strconv"

	"savant/api"
	"savant/coerce"
	"savant/decls"
	"savant/syntax"
	"savant/types"
)

// The reference goes by the chapter's words, to the letter: it asks of each name and of each place anew, by chapter 2's calls alone.

// partsOf are all types within one, itself among them.
func partsOf(u types.Type) []types.Type {
	l := []types.Type{u}
	for _, a := range u.Args {
		l = append(l, partsOf(a)...)
	}
	return l
}

func isWellFormed(l []syntax.Decl, u types.Type) bool {
	for _, part := range partsOf(u) {
		isData := part.Kind == api.Con && part.Name == "Any" && len(part.Args) == 0
		for _, d := range l {
			isData = isData || part.Kind == api.Con && d.Kind == api.DeclData && d.Name == part.Name && len(d.Params) == len(part.Args)
		}
		if part.Kind == api.Meta || part.Kind == api.Con && !isData {
			return false
		}
	}
	return true
}

func good(l []syntax.Decl, u types.Type) api.Errno {
	if !isWellFormed(l, u) {
		return api.ErrKind
	}
	if len(u.Free()) > 0 {
		return api.ErrOpen
	}
	return api.OK
}

// old is the name that the n-th for all of a constructor's type binds, once it is opened.
func old(n int) string { return "old" + strconv.Itoa(n) }

// opened is what stands behind a constructor's for alls, and how many these are.
func opened(u types.Type) (names int, body types.Type) {
	for u.Kind == api.All {
		u = u.Args[0].Put(u.Name, types.Type{Kind: api.Var, Name: old(names)})
		names++
	}
	return names, u
}

// argsOf are the arguments of what stands behind a constructor's for alls, and its result.
func argsOf(body types.Type) (args []types.Type, result types.Type) {
	if body.Kind != api.Fun {
		return nil, body
	}
	args, result = argsOf(body.Args[1])
	return append([]types.Type{body.Args[0]}, args...), result
}

func hasResult(d syntax.Decl, u types.Type) bool {
	_, body := opened(u)
	_, result := argsOf(body)
	isPoly := slices.ContainsFunc(partsOf(result), func(part types.Type) bool { return part.Kind == api.All })
	return result.Kind == api.Con && result.Name == d.Name && len(result.Args) == len(d.Params) && !isPoly
}

// univOf is the first place of the indices at which that name stands: -1, if it is none of them.
func univOf(name string, indices []types.Type) int {
	return slices.IndexFunc(indices, func(u types.Type) bool { return u.Kind == api.Var && u.Name == name })
}

// newName is what the n-th name of the for alls becomes.
func newName(n int, indices []types.Type) string {
	if i := univOf(old(n), indices); i >= 0 {
		return "u" + strconv.Itoa(i)
	}
	ahead := 0
	for k := range n {
		if univOf(old(k), indices) < 0 {
			ahead++
		}
	}
	return "e" + strconv.Itoa(ahead)
}

// conAsTold is what the constructor of that place in d is.
func conAsTold(d syntax.Decl, tag int) decls.Con {
	c := decls.Con{Name: d.Cons[tag].Name, Data: d.Name, Tag: tag, T: d.Cons[tag].T}
	names, body := opened(c.T)
	args, result := argsOf(body)
	named := func(u types.Type) types.Type {
		for n := range names {
			u = u.Put(old(n), types.Type{Kind: api.Var, Name: newName(n, result.Args)})
		}
		return u
	}
	for n := range names {
		if univOf(old(n), result.Args) < 0 {
			c.Exis = append(c.Exis, newName(n, result.Args))
		}
	}
	for i, index := range result.Args {
		univ := "u" + strconv.Itoa(i)
		c.Univ = append(c.Univ, univ)
		if index.Kind != api.Var || univOf(index.Name, result.Args) != i {
			c.Givens = append(c.Givens, coerce.Given{Name: "g" + strconv.Itoa(len(c.Givens)), L: types.Type{Kind: api.Var, Name: univ}, R: named(index)})
		}
	}
	for _, a := range args {
		c.Args = append(c.Args, named(a))
	}
	return c
}

// wrongAsTold is what New tells of a program with which something is wrong: OK, if nothing is.
func wrongAsTold(l []syntax.Decl) (name string, e api.Errno) {
	for _, d := range l {
		if e := good(l, d.T); d.Kind == api.DeclSig && e != api.OK {
			return d.Name, e
		}
		for _, c := range d.Cons {
			if e := good(l, c.T); e != api.OK {
				return c.Name, e
			}
			if !hasResult(d, c.T) {
				return c.Name, api.ErrResult
			}
		}
	}
	return "", api.OK
}

// madeOf is the type that comes of what a constructor is: for all its Univ and Exis, but for those that givens tell, of functions from its Args to its data, with the givens' right sides in the places of their left ones.
func madeOf(c decls.Con) types.Type {
	told := map[string]types.Type{}
	for _, g := range c.Givens {
		told[g.L.Name] = g.R
	}
	u := types.Type{Kind: api.Con, Name: c.Data}
	names := slices.Clone(c.Exis)
	for _, name := range slices.Backward(c.Univ) {
		index, is := told[name]
		if !is {
			index = types.Type{Kind: api.Var, Name: name}
			names = slices.Insert(names, 0, name)
		}
		u.Args = slices.Insert(u.Args, 0, index)
	}
	for _, a := range slices.Backward(c.Args) {
		u = types.Type{Kind: api.Fun, Args: []types.Type{a, u}}
	}
	for _, name := range slices.Backward(names) {
		u = types.Type{Kind: api.All, Name: name, Args: []types.Type{u}}
	}
	return u
}

// turned is a type with its for alls in the order in which the names behind them are written first; those that are not written come first.
func turned(u types.Type) types.Type {
	names, body := opened(u)
	written := body.Free()
	for _, name := range slices.Backward(written) {
		body = types.Type{Kind: api.All, Name: name, Args: []types.Type{body}}
	}
	for range names - len(written) {
		body = types.Type{Kind: api.All, Name: "none", Args: []types.Type{body}}
	}
	return body
}
