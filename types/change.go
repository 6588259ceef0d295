package types

import (
	"slices"
	"strconv"

	"savant/api"
)

// Canon is t's text with its canonical names.
func (t Type) Canon() string {
	next := newNames(t.Free())
	bind := func(string) string { return next() }
	return t.changed(bind, func(l Type) Type { return l }).Print()
}

// changed is t with other names and leaves: each for all, asked in the order in which they are written, binds the name that bind answers; each leaf gives way to what leaf answers.
func (t Type) changed(bind func(name string) string, leaf func(l Type) Type) Type {
	return t.changedWithin(map[string]Type{}, bind, leaf)
}

// changedWithin is handed what stands for the names that for alls around t bind.
func (t Type) changedWithin(bound map[string]Type, bind func(name string) string, leaf func(l Type) Type) Type {
	switch t.Kind {
	case api.Var:
		if v, ok := bound[t.Name]; ok {
			return v
		}
		return leaf(t)
	case api.Meta:
		return leaf(t)
	case api.All:
		name := bind(t.Name)
		defer cover(bound, t.Name, variable(name))()
		t.Name = name
	}
	// t is a copy of what was handed in, but its list is not, and must stay as it is.
	t.Args = slices.Clone(t.Args)
	for i, a := range t.Args {
		t.Args[i] = a.changedWithin(bound, bind, leaf)
	}
	return t
}

// newNames makes the closure that tells x0, x1, x2 and so on, one each time it is called, but passes over those that are taken.
func newNames(taken []string) (next func() string) {
	isTaken := set(taken)
	n := 0
	return func() string {
		for {
			name := "x" + strconv.Itoa(n)
			n++
			if _, no := isTaken[name]; !no {
				return name
			}
		}
	}
}

func set(names []string) map[string]struct{} {
	s := map[string]struct{}{}
	for _, name := range names {
		s[name] = struct{}{}
	}
	return s
}
