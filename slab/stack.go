package slab

// stack gives back first what was put last.
type stack[T any] struct {
	items []T
}

// push puts one on top.
func (s *stack[T]) push(x T) { s.items = append(s.items, x) }

// pop takes the one on top, if there is one.
func (s *stack[T]) pop() (T, bool) {
	if len(s.items) == 0 {
		var none T
		return none, false
	}
	last := len(s.items) - 1
	x := s.items[last]
	s.items = s.items[:last]
	return x, true
}

// size is how many there are.
func (s *stack[T]) size() int { return len(s.items) }

// list are all of them in new memory, the one on top at the end.
func (s *stack[T]) list() []T {
	// slices.Clone of an empty list would still point into the one it is of.
	return append([]T(nil), s.items...)
}
