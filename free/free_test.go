package free

import (
	"slices"
	"testing"
)

const (
	low  = -1 << 63
	high = 1<<63 - 1
)

// dice rolls numbers that are the same in each run.
type dice uint64

func (d *dice) roll(n int) int {
	*d = *d*6364136223846793005 + 1442695040888963407
	return int(uint64(*d>>33) % uint64(n))
}

// holds looks at what is told of free and waiting pages; both are given rising.
func holds(t *testing.T, f *Free, free, waiting []int) {
	t.Helper()
	if l := f.List(); !slices.Equal(l, free) || f.Len() != len(free) {
		t.Errorf("%d free %v, not %v", f.Len(), l, free)
	}
	if f.Waiting() != len(waiting) {
		t.Errorf("%d wait, not %v", f.Waiting(), waiting)
	}
	all := slices.Concat(free, waiting)
	slices.Sort(all)
	if l := f.All(); !slices.Equal(l, all) {
		t.Errorf("all %v, not %v", l, all)
	}
}

func takes(t *testing.T, f *Free, want int) {
	t.Helper()
	if v, ok := f.Take(); v != want || !ok {
		t.Errorf("Take: %d %v, not %d", v, ok, want)
	}
}

func bare(t *testing.T, f *Free) {
	t.Helper()
	if v, ok := f.Take(); v != 0 || ok {
		t.Errorf("Take of none: %d %v", v, ok)
	}
}

func unpins(t *testing.T, f *Free, txn int, want bool) {
	t.Helper()
	if f.Unpin(txn) != want {
		t.Errorf("Unpin(%d): not %v", txn, want)
	}
}

func releases(t *testing.T, f *Free, want int) {
	t.Helper()
	if n := f.Release(); n != want {
		t.Errorf("Release: %d, not %d", n, want)
	}
}

func TestP601Example(t *testing.T) {
	f := New(9, 4)
	f.Give(7, 5)
	f.Pin(6)
	releases(t, f, 0)
	takes(t, f, 4)
	unpins(t, f, 6, true)
	releases(t, f, 1)
	holds(t, f, []int{5, 9}, nil)
}

func TestP601New(t *testing.T) {
	holds(t, New(), nil, nil)
	holds(t, New([]int{}...), nil, nil)
	holds(t, New(4), []int{4}, nil)
	holds(t, New(7, 3, 5, 3, 0), []int{0, 3, 3, 5, 7}, nil) // twice told, twice there
	holds(t, New(high, -1, low), []int{low, -1, high}, nil)
}

func TestP601TakeTheLeast(t *testing.T) {
	l := []int{30, 2, 11, high, 2, 0, -5, 30, low}
	f := New(l...)
	slices.Sort(l)
	for i, want := range l {
		takes(t, f, want)
		holds(t, f, l[i+1:], nil)
	}
	bare(t, f)
	bare(t, f)
	f.Back(8)
	takes(t, f, 8)
	bare(t, f)
}

func TestP601BackIsFreeAtOnce(t *testing.T) {
	f := New(6)
	f.Pin(1)
	f.Back()
	holds(t, f, []int{6}, nil)
	f.Back(9, 3, 3)
	f.Back(6)
	holds(t, f, []int{3, 3, 6, 6, 9}, nil)
	takes(t, f, 3)
	takes(t, f, 3)
	takes(t, f, 6)
}

func TestP601WhatWaitsIsNotTaken(t *testing.T) {
	f := New(9)
	f.Give(1, 2, 2, 5)
	f.Give(1)
	f.Give(2, 3)
	holds(t, f, []int{9}, []int{2, 2, 3, 5})
	takes(t, f, 9)
	bare(t, f)
	holds(t, f, nil, []int{2, 2, 3, 5})
	releases(t, f, 4)
	holds(t, f, []int{2, 2, 3, 5}, nil)
	takes(t, f, 2)
}

func TestP601ReleaseUpToTheEldest(t *testing.T) {
	for eldest := range 7 {
		f := New()
		want, waits := []int{}, []int{}
		for _, txn := range []int{3, 1, 5, 3, 2} {
			page := 10*txn + f.Waiting()
			f.Give(txn, page)
			if txn <= eldest {
				want = append(want, page)
			} else {
				waits = append(waits, page)
			}
		}
		f.Pin(eldest + 2)
		f.Pin(eldest) // neither the first one told nor the last
		f.Pin(eldest + 1)
		releases(t, f, len(want))
		slices.Sort(want)
		slices.Sort(waits)
		holds(t, f, want, waits)
		releases(t, f, 0)
		holds(t, f, want, waits)
	}
}

func TestP601ReleaseWithoutPins(t *testing.T) {
	f := New(1)
	releases(t, f, 0)
	f.Give(high, 5)
	f.Give(low, 4)
	f.Give(0, 6)
	f.Give(-1, -9)
	releases(t, f, 4)
	holds(t, f, []int{-9, 1, 4, 5, 6}, nil)
	releases(t, f, 0)
}

func TestP601AnyNumbers(t *testing.T) {
	f := New()
	f.Give(low, 1)
	f.Give(low+1, 2)
	f.Give(-1, 3)
	f.Give(0, 4)
	f.Give(high, 5)
	f.Pin(low)
	releases(t, f, 1)
	f.Pin(-1)
	releases(t, f, 0)
	unpins(t, f, low, true)
	releases(t, f, 2)
	unpins(t, f, -1, true)
	f.Pin(0) // a state's number as others are
	releases(t, f, 1)
	holds(t, f, []int{1, 2, 3, 4}, []int{5})
	f.Pin(high)
	unpins(t, f, 0, true)
	releases(t, f, 1)
	holds(t, f, []int{1, 2, 3, 4, 5}, nil)
}

func TestP601Unpin(t *testing.T) {
	f := New()
	unpins(t, f, 0, false)
	f.Pin(4)
	f.Pin(6)
	f.Pin(4)
	unpins(t, f, 5, false)
	unpins(t, f, -4, false)
	f.Give(5, 10)
	unpins(t, f, 4, true)
	releases(t, f, 0) // the other view of 4 is open still
	unpins(t, f, 4, true)
	unpins(t, f, 4, false)
	holds(t, f, nil, []int{10}) // nothing is free ahead of a Release
	releases(t, f, 1)
	unpins(t, f, 6, true)
	unpins(t, f, 6, false)
	holds(t, f, []int{10}, nil)
}

// The eldest view alone says what waits: one that is younger and is closed changes nothing.
func TestP601UnpinOfAYoungerOne(t *testing.T) {
	f := New()
	for txn := range 9 {
		f.Give(txn, 100+txn)
		f.Pin(txn)
	}
	releases(t, f, 1)
	for _, txn := range []int{5, 8, 3, 6} {
		unpins(t, f, txn, true)
		releases(t, f, 0)
	}
	for _, c := range [][2]int{{0, 1}, {1, 1}, {2, 2}, {4, 3}, {7, 1}} {
		unpins(t, f, c[0], true)
		releases(t, f, c[1])
	}
	holds(t, f, []int{100, 101, 102, 103, 104, 105, 106, 107, 108}, nil)
}

// A pin keeps nothing back that is free already.
func TestP601PinBehindARelease(t *testing.T) {
	f := New()
	f.Give(8, 7)
	releases(t, f, 1)
	f.Pin(1)
	holds(t, f, []int{7}, nil)
	f.Give(8, 6)
	releases(t, f, 0)
	takes(t, f, 7)
	bare(t, f)
}

func TestP602ItsOwn(t *testing.T) {
	room := []int{5, 4, 3, 77}
	in := room[:3]
	f := New(in...)
	f.Give(1, in...)
	f.Back(in...)
	takes(t, f, 3)
	if !slices.Equal(room, []int{5, 4, 3, 77}) {
		t.Error("what was handed in is", room)
	}
	in[0], in[1], in[2] = 90, 91, 92
	holds(t, f, []int{3, 4, 4, 5, 5}, []int{3, 4, 5})
	for _, l := range [][]int{f.List(), f.All()} {
		for i := range l {
			l[i] = 99
		}
		_ = append(l[:0], -9)
	}
	holds(t, f, []int{3, 4, 4, 5, 5}, []int{3, 4, 5})
	releases(t, f, 3)
	takes(t, f, 3)
}

// plain is a Free by another hand: of each page its transaction, free ones apart.
type plain struct {
	free, pins []int
	waiting    [][2]int // a transaction, a page
}

func (p *plain) release() int {
	n := 0
	p.waiting = slices.DeleteFunc(p.waiting, func(w [2]int) bool {
		for _, txn := range p.pins {
			if txn < w[0] {
				return false
			}
		}
		p.free = append(p.free, w[1])
		n++
		return true
	})
	slices.Sort(p.free)
	return n
}

func (p *plain) pages() []int {
	var l []int
	for _, w := range p.waiting {
		l = append(l, w[1])
	}
	return l
}

func (p *plain) unpin(txn int) bool {
	at := slices.Index(p.pins, txn)
	if at >= 0 {
		p.pins = slices.Delete(p.pins, at, at+1)
	}
	return at >= 0
}

func rolls(d *dice) []int {
	l := make([]int, d.roll(4))
	for i := range l {
		l[i] = d.roll(30)
	}
	return l
}

func TestP602Walk(t *testing.T) {
	var d dice = 602
	f, p := New(), &plain{}
	for i := range 6000 {
		txn := i/50 + d.roll(12) - 6
		switch d.roll(7) {
		case 0:
			l := rolls(&d)
			f.Give(txn, l...)
			for _, page := range l {
				p.waiting = append(p.waiting, [2]int{txn, page})
			}
		case 1:
			l := rolls(&d)
			f.Back(l...)
			p.free = append(p.free, l...)
			slices.Sort(p.free)
		case 2:
			f.Pin(txn)
			p.pins = append(p.pins, txn)
		case 3:
			if d.roll(2) == 0 && len(p.pins) > 0 {
				txn = p.pins[d.roll(len(p.pins))]
			}
			unpins(t, f, txn, p.unpin(txn))
		case 4:
			releases(t, f, p.release())
		case 5, 6:
			if len(p.free) == 0 {
				bare(t, f)
				continue
			}
			takes(t, f, p.free[0])
			p.free = p.free[1:]
		}
		holds(t, f, p.free, p.pages())
		if t.Failed() {
			t.Fatal("at step", i)
		}
	}
}

// Each state has its pages; whatever views are open, none of what one of them reads is ever taken.
func TestP604NoViewLosesAPage(t *testing.T) {
	var d dice = 604
	f, next := New(), 2
	states := [][]int{{}} // of each Txn the pages that it has
	views := []int{}
	for txn := 1; txn < 600; txn++ {
		old, kept, gone := states[txn-1], []int{}, []int{}
		for _, page := range old {
			if d.roll(3) == 0 {
				gone = append(gone, page)
			} else {
				kept = append(kept, page)
			}
		}
		for range d.roll(5) {
			page, ok := f.Take()
			if !ok {
				page, next = next, next+1
			}
			for _, v := range append(views, txn-1) {
				if slices.Contains(states[v], page) {
					t.Fatalf("page %d is taken, but the view of %d reads it", page, v)
				}
			}
			kept = append(kept, page)
		}
		f.Give(txn, gone...)
		states = append(states, kept)
		f.Release()
		if d.roll(3) == 0 {
			views = append(views, txn)
			f.Pin(txn)
		}
		if d.roll(3) == 0 && len(views) > 0 {
			at := d.roll(len(views))
			unpins(t, f, views[at], true)
			views = slices.Delete(views, at, at+1)
			f.Release()
		}
	}
	for _, v := range views {
		unpins(t, f, v, true)
	}
	f.Release()
	if last := states[len(states)-1]; f.Waiting() != 0 || f.Len()+len(last) != next-2 {
		t.Errorf("%d wait, %d are free and %d used of %d", f.Waiting(), f.Len(), len(last), next-2)
	}
}

// The view of the transaction that gave a page reads it no more; that of the one ahead does.
func TestP604TheViewsOfAPage(t *testing.T) {
	for _, c := range [][2]int{{6, 0}, {7, 1}, {8, 1}} {
		f := New()
		f.Give(7, 3)
		f.Pin(c[0])
		releases(t, f, c[1])
	}
}

func TestP604Nil(t *testing.T) {
	var f *Free
	f.Give(1, 2)
	f.Back(3)
	f.Pin(1)
	unpins(t, f, 1, false)
	releases(t, f, 0)
	holds(t, f, nil, nil)
	bare(t, f)
}

func TestP604Zero(t *testing.T) {
	holds(t, &Free{}, nil, nil)
	bare(t, &Free{})
	unpins(t, &Free{}, 0, false)
	releases(t, &Free{}, 0)
	var f Free
	f.Give(7, 5, 1)
	f.Back(9, 4)
	f.Pin(6)
	releases(t, &f, 0)
	holds(t, &f, []int{4, 9}, []int{1, 5})
	unpins(t, &f, 6, true)
	releases(t, &f, 2)
	takes(t, &f, 1)
	holds(t, &f, []int{4, 5, 9}, nil)
}
