package types_test

import (
	"strconv"
	"strings"

	"savant/api"
	"savant/types"
)

// tree writes a type with all its parts in parentheses, and nothing left out.
func tree(t types.Type) string {
	parts := []string{strconv.Itoa(t.Kind)}
	switch t.Kind {
	case api.Meta:
		parts = append(parts, strconv.Itoa(t.N))
	case api.Fun:
	default:
		parts = append(parts, t.Name)
	}
	for _, a := range t.Args {
		parts = append(parts, tree(a))
	}
	return "(" + strings.Join(parts, " ") + ")"
}

// nameless writes a type so that the same types have one text: a bound variable is told by how many for alls stand between it and the one that binds it, a free one by what stands for it in put (itself, if nothing does), an unknown likewise.
func nameless(t types.Type, bound []string, put map[string]string) string {
	leaf := t.Name
	switch t.Kind {
	case api.Var:
		for i := range bound {
			if bound[len(bound)-1-i] == t.Name {
				return "#" + strconv.Itoa(i)
			}
		}
	case api.Meta:
		leaf = "?" + strconv.Itoa(t.N)
	default:
		parts := []string{strconv.Itoa(t.Kind)}
		if t.Kind == api.Con {
			parts = append(parts, t.Name)
		}
		if t.Kind == api.All {
			bound = append(bound[:len(bound):len(bound)], t.Name)
		}
		for _, a := range t.Args {
			parts = append(parts, nameless(a, bound, put))
		}
		return "(" + strings.Join(parts, " ") + ")"
	}
	if u, ok := put[leaf]; ok {
		return u
	}
	return leaf
}

// depth and poly count parentheses, and look for for alls, in the text that tree writes.
func depth(t types.Type) int {
	deepest, open := 0, 0
	for _, c := range tree(t) {
		switch c {
		case '(':
			open++
		case ')':
			open--
		}
		deepest = max(deepest, open)
	}
	return deepest
}

func poly(t types.Type) bool {
	return strings.Contains(tree(t), "("+strconv.Itoa(api.All)+" ")
}

// The reference cuts tokens in all ways in which a rule of the grammar can, and tries each: the tree of all of l, or none.
func whole(l []string) string {
	if len(l) > 0 && l[0] == "forall" {
		return wholeForAll(l[1:])
	}
	for i, s := range l {
		if s == "->" {
			from, to := app(l[:i]), whole(l[i+1:])
			if from != "" && to != "" {
				return "(4 " + from + " " + to + ")"
			}
		}
	}
	return app(l)
}

func wholeForAll(l []string) string {
	n := 0
	for n < len(l) && isVar(l[n]) {
		n++
	}
	if n == 0 || n == len(l) || l[n] != "." {
		return ""
	}
	body := whole(l[n+1:])
	if body == "" {
		return ""
	}
	for i := n - 1; i >= 0; i-- {
		body = "(5 " + l[i] + " " + body + ")"
	}
	return body
}

func app(l []string) string {
	if len(l) > 1 && isCon(l[0]) {
		if args, ok := atoms(l[1:]); ok {
			return "(3 " + l[0] + args + ")"
		}
	}
	return atom(l)
}

func atoms(l []string) (string, bool) {
	if len(l) == 0 {
		return "", true
	}
	for i := 1; i <= len(l); i++ {
		if a := atom(l[:i]); a != "" {
			if rest, ok := atoms(l[i:]); ok {
				return " " + a + rest, true
			}
		}
	}
	return "", false
}

func atom(l []string) string {
	switch {
	case len(l) == 0:
	case len(l) == 1 && isVar(l[0]):
		return "(1 " + l[0] + ")"
	case len(l) == 1 && isCon(l[0]):
		return "(3 " + l[0] + ")"
	case len(l) == 1 && l[0][0] == '?':
		return "(2 " + l[0][1:] + ")"
	case l[0] == "(" && l[len(l)-1] == ")":
		return whole(l[1 : len(l)-1])
	}
	return ""
}

func isVar(s string) bool { return s != "forall" && 'a' <= s[0] && s[0] <= 'z' }

func isCon(s string) bool { return 'A' <= s[0] && s[0] <= 'Z' }

// mayGoOn asks whether tokens could be a type, if others stood behind them: it tries what closes each thing that may be open.
func mayGoOn(l []string) bool {
	for _, more := range []string{"", "a", ". a", "a . a"} {
		with := append(l[:len(l):len(l)], strings.Fields(more)...)
		for range len(l) + 1 {
			if whole(with) != "" {
				return true
			}
			with = append(with, ")")
		}
	}
	return false
}

// read is how far a type goes on from the begin of l, and its tree, if what goes on so is one.
func read(l []string) (string, []string) {
	n := 0
	for n < len(l) && mayGoOn(l[:n+1]) {
		n++
	}
	return whole(l[:n]), l[n:]
}
