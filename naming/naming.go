// Package naming is what layers share that go through names that are bound: sets of names, new names, and what a name stands for as long as something binds it.
package naming

import "strconv"

// Set is the set of all names of the lists.
func Set(lists ...[]string) map[string]struct{} {
	s := map[string]struct{}{}
	for _, l := range lists {
		for _, name := range l {
			s[name] = struct{}{}
		}
	}
	return s
}

// New makes the closure that tells letter0, letter1, letter2 and so on, one each time it is called, but passes over those that are taken when it is called.
func New(letter string, taken map[string]struct{}) (next func() string) {
	n := 0
	return func() string {
		for {
			name := letter + strconv.Itoa(n)
			n++
			if _, no := taken[name]; !no {
				return name
			}
		}
	}
}

// Cover lets a name stand for v, and answers what lets it stand again for what it did before.
func Cover[V any](stands map[string]V, name string, v V) (uncover func()) {
	old, was := stands[name]
	stands[name] = v
	return func() {
		if was {
			stands[name] = old
		} else {
			delete(stands, name)
		}
	}
}
