package coerce_test

import (
	"strconv"
	"strings"

	"savant/api"
	"savant/coerce"
	"savant/types"
)

// tree writes a coercion with all its parts in parentheses, and nothing left out that its kind has.
func tree(c coerce.Co) string {
	parts := []string{strconv.Itoa(c.Kind)}
	switch c.Kind {
	case api.CoVar, api.CoCon, api.CoAll:
		parts = append(parts, c.Name)
	case api.CoNth:
		parts = append(parts, strconv.Itoa(c.N))
	case api.CoRefl, api.CoInst:
		parts = append(parts, "<"+c.T.Print()+">")
	}
	for _, k := range c.Kids {
		parts = append(parts, tree(k))
	}
	return "(" + strings.Join(parts, " ") + ")"
}

// letter goes by the chapter's rules to the letter: whole types are held against one another, and names are put into whole coercions.
type letter struct {
	givens []coerce.Given
	names  int
}

func (x *letter) says(c coerce.Co) (l, r types.Type, ok bool) {
	switch c.Kind {
	case api.CoVar:
		for _, g := range x.givens {
			if g.Name == c.Name {
				l, r, ok = g.L, g.R, true
			}
		}
		return l, r, ok
	case api.CoRefl:
		return c.T, c.T, true
	case api.CoAll:
		return x.forAll(c)
	}
	var ls, rs []types.Type
	for _, k := range c.Kids {
		l, r, ok := x.says(k)
		if !ok {
			return l, r, false
		}
		ls, rs = append(ls, l), append(rs, r)
	}
	return byKids(c, ls, rs)
}

func byKids(c coerce.Co, ls, rs []types.Type) (l, r types.Type, ok bool) {
	switch c.Kind {
	case api.CoSym:
		return rs[0], ls[0], true
	case api.CoTrans:
		return ls[0], rs[1], rs[0].Same(ls[1])
	case api.CoCon:
		return con(c.Name, ls...), con(c.Name, rs...), true
	case api.CoFun:
		return fun(ls[0], ls[1]), fun(rs[0], rs[1]), true
	}
	l, r = ls[0], rs[0]
	switch {
	case c.Kind == api.CoInst && l.Kind == api.All && r.Kind == api.All:
		return l.Args[0].Put(l.Name, c.T), r.Args[0].Put(r.Name, c.T), true
	case c.Kind != api.CoNth || l.Kind != r.Kind || c.N >= len(l.Args) || len(l.Args) != len(r.Args):
		return l, r, false
	case l.Kind == api.Con && l.Name == r.Name, l.Kind == api.Fun:
		return l.Args[c.N], r.Args[c.N], true
	}
	return l, r, false
}

func (x *letter) forAll(c coerce.Co) (l, r types.Type, ok bool) {
	x.names++
	name := "nowhere_" + strconv.Itoa(x.names)
	l, r, ok = x.says(named(c.Kids[0], c.Name, name))
	return all(name, l), all(name, r), ok
}

// named is c with another name in the place of one that a CoAll around binds.
func named(c coerce.Co, from, to string) coerce.Co {
	if c.Kind == api.CoAll && c.Name == from {
		return c
	}
	c.T = c.T.Put(from, v(to))
	kids := c.Kids
	c.Kids = nil
	for _, k := range kids {
		c.Kids = append(c.Kids, named(k, from, to))
	}
	return c
}

// The reference cuts tokens in all ways in which a rule of the chapter's table can, and tries each: the tree of all of l, or none.
func whole(l []string) string {
	last := len(l) - 1
	switch {
	case len(l) == 1 && isVar(l[0]):
		return "(1 " + l[0] + ")"
	case len(l) > 2 && l[0] == "<" && l[last] == ">":
		if t := typeText(l); t != "" {
			return "(2 " + t + ")"
		}
	case len(l) > 2 && l[0] == "(" && l[last] == ")":
		return ofWord(l[1], l[2:last])
	}
	return ""
}

func typeText(l []string) string {
	if len(l) < 3 || l[0] != "<" || l[len(l)-1] != ">" {
		return ""
	}
	t, e := types.Parse(strings.Join(l[1:len(l)-1], " "))
	if e != api.OK {
		return ""
	}
	return "<" + t.Print() + ">"
}

func ofWord(word string, l []string) string {
	head := ""
	if len(l) > 0 {
		head = l[0]
	}
	switch {
	case word == "Sym":
		return tagged("(3", l, 1)
	case word == "Trans":
		return tagged("(4", l, 2)
	case word == "Con" && head >= "A" && head < "[":
		for n := range len(l) {
			if s := tagged("(5 "+head, l[1:], n); s != "" {
				return s
			}
		}
	case word == "Fun":
		return tagged("(6", l, 2)
	case word == "All" && isVar(head):
		return tagged("(7 "+head, l[1:], 1)
	case word == "Nth" && head >= "0" && head < ":":
		return tagged("(8 "+head, l[1:], 1)
	case word == "Inst":
		for i := range l {
			if t := typeText(l[i:]); t != "" {
				return tagged("(9 "+t, l[:i], 1)
			}
		}
	}
	return ""
}

// tagged is a tag and the trees of so many coercions that are all of l, if they are.
func tagged(tag string, l []string, n int) string {
	if kids, ok := cut(l, n); ok {
		return tag + kids + ")"
	}
	return ""
}

func cut(l []string, n int) (string, bool) {
	if n == 0 {
		return "", len(l) == 0
	}
	for i := range len(l) + 1 {
		if k := whole(l[:i]); k != "" {
			if rest, ok := cut(l[i:], n-1); ok {
				return " " + k + rest, true
			}
		}
	}
	return "", false
}

func isVar(s string) bool { return s >= "a" && s < "{" && s != "forall" && s != "in" }
