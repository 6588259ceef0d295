package unify

import "slices"

// stack is what things are laid on, and taken from again: the one that was laid there last is taken first.
type stack[T any] struct{ things []T }

// lay lays things onto the stack, the first of them on top.
func (s *stack[T]) lay(things ...T) {
	for _, x := range slices.Backward(things) {
		s.things = append(s.things, x)
	}
}

// taken hands over what is on top, and takes it from there, again and again till nothing is left; what is laid meanwhile is taken too.
func (s *stack[T]) taken(do func(x T) bool) {
	for len(s.things) > 0 {
		last := len(s.things) - 1
		x := s.things[last]
		s.things = s.things[:last]
		if !do(x) {
			return
		}
	}
}
