package decls

import (
	"slices"

	"savant/api"
	"savant/coerce"
	"savant/match"
	"savant/naming"
	"savant/putting"
	"savant/syntax"
	"savant/types"
)

// constructor is what the one is that has that place in a declaration of data, and whose type is a signature; false, if its type has no result as it must be.
func constructor(d syntax.Decl, tag int) (Con, bool) {
	t := d.Cons[tag].T
	names, body := match.Peel(t)
	args, result := apart(body)
	if !isResult(result, d) {
		return Con{}, false
	}
	c := Con{Name: d.Cons[tag].Name, Data: d.Name, Tag: tag, T: t, Args: args}
	news := c.takeIndices(result.Args)
	c.takeRest(names, news)
	c.rename(news)
	return c.cut(), true
}

// apart is a function's arguments, one behind the other, and what it answers at last.
func apart(t types.Type) (args []types.Type, result types.Type) {
	for t.Kind == api.Fun && len(t.Args) == 2 {
		args = append(args, t.Args[0])
		t = t.Args[1]
	}
	return args, t
}

// isResult need not ask how many arguments t has: as it is well formed, they are as many as d has names for.
func isResult(t types.Type, d syntax.Decl) bool {
	return t.Kind == api.Con && t.Name == d.Name && !t.Poly()
}

// takeIndices finds the names in Univ, and the givens, in which the old names still stand; news has what stands for old names from now on.
func (c *Con) takeIndices(indices []types.Type) (news map[string]types.Type) {
	news = map[string]types.Type{}
	next, nextGiven := naming.New("u", nil), naming.New("g", nil)
	for _, index := range indices {
		name := next()
		c.Univ = append(c.Univ, name)
		if _, isAhead := news[index.Name]; index.Kind == api.Var && !isAhead {
			news[index.Name] = variable(name)
		} else {
			c.Givens = append(c.Givens, coerce.Given{Name: nextGiven(), L: variable(name), R: index})
		}
	}
	return news
}

// takeRest finds the names in Exis: they stand for those of names that have no new one yet.
func (c *Con) takeRest(names []string, news map[string]types.Type) {
	next := naming.New("e", nil)
	for _, old := range names {
		if _, isUniv := news[old]; !isUniv {
			name := next()
			c.Exis = append(c.Exis, name)
			news[old] = variable(name)
		}
	}
}

// rename puts new names in the places of old ones.
func (c *Con) rename(news map[string]types.Type) {
	for i, g := range c.Givens {
		c.Givens[i].R = putting.AtNames(g.R, news)
	}
	for i, a := range c.Args {
		c.Args[i] = putting.AtNames(a, news)
	}
}

// cut leaves no room behind the lists: two who make one longer must not write to one place.
func (c Con) cut() Con {
	c.Univ, c.Exis, c.Givens, c.Args = slices.Clip(c.Univ), slices.Clip(c.Exis), slices.Clip(c.Givens), slices.Clip(c.Args)
	return c
}

func variable(name string) types.Type {
	return types.Type{Kind: api.Var, Name: name}
}
