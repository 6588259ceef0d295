package match

import (
	"savant/api"
	"savant/naming"
	"savant/putting"
	"savant/types"
)

// Peel tells the names that the for alls at t's begin bind, and what is behind them; both with the names p0, p1 and so on, but none that is free in t.
func Peel(t types.Type) (names []string, body types.Type) {
	return peel(t, naming.New("p", naming.Set(t.Free())))
}

// peel is handed what tells the names that stand in the places of those that are bound.
func peel(t types.Type, next func() string) (bound []string, body types.Type) {
	place := map[string]types.Type{}
	for t.Kind == api.All && len(t.Args) == 1 {
		name := next()
		bound = append(bound, name)
		// Where several for alls bind one name, what is behind them means the last one's: it stays.
		place[t.Name] = types.Type{Kind: api.Var, Name: name}
		t = t.Args[0]
	}
	return bound, putting.AtNames(t, place)
}
