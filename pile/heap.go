package pile

import "cmp"

// items are the part of a heap that is the same whatever it holds; what embeds them adds Less.
type items[T any] struct{ all []T }

func (s *items[T]) Len() int { return len(s.all) }

func (s *items[T]) Swap(i, j int) { s.all[i], s.all[j] = s.all[j], s.all[i] }

func (s *items[T]) Push(x any) { s.all = append(s.all, x.(T)) }

func (s *items[T]) Pop() any {
	last := len(s.all) - 1
	x := s.all[last]
	s.all = s.all[:last]
	return x
}

// first tells what stands at the top, if there is something.
func (s *items[T]) first() (T, bool) {
	if len(s.all) == 0 {
		var none T
		return none, false
	}
	return s.all[0], true
}

// numbers are a heap with the least one at its top.
type numbers struct{ items[int] }

func (n *numbers) Less(i, j int) bool { return n.all[i] < n.all[j] }

// dues are a heap with the one that is due first at its top.
type dues struct{ items[Due] }

func (d *dues) Less(i, j int) bool { return order(d.all[i], d.all[j]) < 0 }

// order tells which of two is due first; their Seqs differ, so none is left to the heap's whim.
func order(a, b Due) int {
	return cmp.Or(cmp.Compare(a.At, b.At), cmp.Compare(a.Seq, b.Seq))
}
