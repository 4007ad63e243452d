package pile

import (
	"container/heap"
	"slices"
)

const lastSeq = 1 << 62 // a counter stays here

// Due is what is due at a time.
type Due struct{ At, Seq, What int }

// Line holds what is due. A zero Line is empty.
type Line struct {
	seq  int // of the last Put
	heap dues
}

// NewLine makes a line.
func NewLine() *Line { return &Line{} }

// Put puts something into it.
func (l *Line) Put(at, what int) int {
	if l == nil {
		return 0
	}
	l.seq = min(l.seq+1, lastSeq)
	heap.Push(&l.heap, Due{at, l.seq, what})
	return l.seq
}

// Take takes the first one, if it is due.
func (l *Line) Take(now int) (Due, bool) {
	d, ok := l.First()
	if !ok || d.At > now {
		return Due{}, false
	}
	heap.Pop(&l.heap)
	return d, true
}

// First tells the first one.
func (l *Line) First() (Due, bool) {
	if l == nil {
		return Due{}, false
	}
	return l.heap.first()
}

// Len tells how many there are.
func (l *Line) Len() int {
	if l == nil {
		return 0
	}
	return l.heap.Len()
}

// List tells all.
func (l *Line) List() []Due {
	if l == nil {
		return nil
	}
	all := slices.Clone(l.heap.all)
	slices.SortFunc(all, order)
	return all
}
