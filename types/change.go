package types

import (
	"slices"

	"savant/api"
	"savant/naming"
)

// Canon is t's text with its canonical names.
func (t Type) Canon() string {
	next := naming.New("x", naming.Set(t.Free()))
	bind := func(string) string { return next() }
	return t.changed(bind, func(l Type) Type { return l }).Print()
}

// changed is t with other names and leaves: each for all, asked in the order in which they are written, binds the name that bind answers; each leaf gives way to what leaf answers.
func (t Type) changed(bind func(name string) string, leaf func(l Type) Type) Type {
	return t.changedWithin(map[string]Type{}, bind, leaf)
}

// changedWithin is handed what stands for the names that for alls around t bind.
func (t Type) changedWithin(bound map[string]Type, bind func(name string) string, leaf func(l Type) Type) Type {
	switch t.Kind {
	case api.Var:
		if v, ok := bound[t.Name]; ok {
			return v
		}
		return leaf(t)
	case api.Meta:
		return leaf(t)
	case api.All:
		name := bind(t.Name)
		defer naming.Cover(bound, t.Name, variable(name))()
		t.Name = name
	}
	// t is a copy of what was handed in, but its list is not, and must stay as it is.
	t.Args = slices.Clone(t.Args)
	for i, a := range t.Args {
		t.Args[i] = a.changedWithin(bound, bind, leaf)
	}
	return t
}
