package types

import (
	"savant/api"
	"savant/naming"
)

// through goes through t in the order in which it is written. Each part is handed to come, and to leave when all that stands within it is done; both times bound has the names that the for alls around the part bind.
func (t Type) through(bound map[string]int, come, leave func(part Type)) {
	come(t)
	t.throughArgs(bound, come, leave)
	leave(t)
}

func (t Type) throughArgs(bound map[string]int, come, leave func(part Type)) {
	if t.Kind == api.All {
		defer naming.Cover(bound, t.Name, 1)()
	}
	for _, a := range t.Args {
		a.through(bound, come, leave)
	}
}

// leaves goes through t and hands over each leaf: an unknown, or a variable that is free.
func (t Type) leaves(do func(l Type)) {
	bound := map[string]int{}
	t.through(bound, func(part Type) {
		if isLeaf(part, bound) {
			do(part)
		}
	}, func(Type) {})
}

func isLeaf(part Type, bound map[string]int) bool {
	return part.Kind == api.Meta || part.Kind == api.Var && bound[part.Name] == 0
}

// Free are the names of the variables that are free in t.
func (t Type) Free() []string {
	var names []string
	note := once(&names)
	t.leaves(func(l Type) {
		if l.Kind == api.Var {
			note(l.Name)
		}
	})
	return names
}

// Metas are the numbers of t's unknowns.
func (t Type) Metas() []int {
	var numbers []int
	note := once(&numbers)
	t.leaves(func(l Type) {
		if l.Kind == api.Meta {
			note(l.N)
		}
	})
	return numbers
}

// names are those of all variables in t, free ones or not, and those that its for alls bind.
func (t Type) names() []string {
	var names []string
	note := once(&names)
	t.through(map[string]int{}, func(part Type) {
		if part.Kind == api.Var || part.Kind == api.All {
			note(part.Name)
		}
	}, func(Type) {})
	return names
}

// once makes the closure that lays what it is handed onto l, but nothing a second time.
func once[V comparable](l *[]V) (note func(v V)) {
	met := map[V]struct{}{}
	return func(v V) {
		if _, again := met[v]; !again {
			met[v] = struct{}{}
			*l = append(*l, v)
		}
	}
}
