package pile

import (
	"slices"
	"testing"
)

const (
	least    = -1 << 63
	greatest = 1<<63 - 1
)

// lists looks at what a pile tells of all its numbers.
func lists(t *testing.T, p *Pile, want ...int) {
	t.Helper()
	if got := p.List(); !slices.Equal(got, want) || p.Len() != len(want) {
		t.Errorf("%d numbers %v, not %v", p.Len(), got, want)
	}
	v, ok := p.First()
	if ok != (len(want) > 0) || ok && v != want[0] || !ok && v != 0 {
		t.Errorf("First: %d %v of %v", v, ok, want)
	}
}

func takes(t *testing.T, p *Pile, want int) {
	t.Helper()
	if v, ok := p.Take(); v != want || !ok {
		t.Errorf("Take: %d %v, not %d", v, ok, want)
	}
}

// bare looks that there is nothing to take.
func bare(t *testing.T, p *Pile) {
	t.Helper()
	lists(t, p)
	if v, ok := p.Take(); v != 0 || ok {
		t.Errorf("Take of none: %d %v", v, ok)
	}
}

func drops(t *testing.T, p *Pile, v int, want bool) {
	t.Helper()
	if p.Drop(v) != want {
		t.Errorf("Drop(%d): not %v", v, want)
	}
}

func TestP301Example(t *testing.T) {
	p := New(3, 1, 2)
	takes(t, p, 1)
	takes(t, p, 2)
	lists(t, p, 3)
}

func TestP301New(t *testing.T) {
	bare(t, New())
	bare(t, New([]int{}...))
	lists(t, New(4), 4)
	lists(t, New(9, 8, 7, 6, 5, 4, 3, 2, 1, 0), 0, 1, 2, 3, 4, 5, 6, 7, 8, 9)
	lists(t, New(greatest, 0, least, -1, 1), least, -1, 0, 1, greatest)
}

func TestP301Put(t *testing.T) {
	p := New()
	p.Put()
	bare(t, p)
	p.Put(5)
	lists(t, p, 5)
	p.Put(7, -2, greatest, least)
	lists(t, p, least, -2, 5, 7, greatest)
	p.Put([]int{}...)
	lists(t, p, least, -2, 5, 7, greatest)
}

func TestP301TheSameNumberSeveralTimes(t *testing.T) {
	p := New(2, 2, 1, 2)
	p.Put(1, 2)
	lists(t, p, 1, 1, 2, 2, 2, 2)
	takes(t, p, 1)
	takes(t, p, 1)
	takes(t, p, 2)
	lists(t, p, 2, 2, 2)
}

func TestP301Take(t *testing.T) {
	l := []int{3, greatest, 0, -7, least, 3, 12, -7, 1}
	p := New(l...)
	slices.Sort(l)
	for _, want := range l {
		takes(t, p, want)
	}
	bare(t, p)
	bare(t, p)
	p.Put(6)
	takes(t, p, 6)
	bare(t, p)
}

// A number that is there, and is 0, is told as any other.
func TestP301Naught(t *testing.T) {
	p := New(0)
	lists(t, p, 0)
	takes(t, p, 0)
	bare(t, p)
	p.Put(0)
	drops(t, p, 0, true)
	drops(t, p, 0, false)
}

func TestP301FirstStays(t *testing.T) {
	p := New(8, 6)
	for range 3 {
		if v, ok := p.First(); v != 6 || !ok {
			t.Fatal("First", v, ok)
		}
	}
	lists(t, p, 6, 8)
}

func TestP301Drop(t *testing.T) {
	p := New(4, 4, 9, -1, 6)
	drops(t, p, 5, false)
	drops(t, p, least, false)
	drops(t, p, greatest, false)
	lists(t, p, -1, 4, 4, 6, 9)
	drops(t, p, 4, true)
	lists(t, p, -1, 4, 6, 9)
	drops(t, p, 4, true)
	drops(t, p, 4, false)
	lists(t, p, -1, 6, 9)
	drops(t, p, -1, true)
	lists(t, p, 6, 9)
	drops(t, p, 9, true)
	drops(t, p, 6, true)
	drops(t, p, 6, false)
	bare(t, p)
}

// Whichever is dropped, the others come in order.
func TestP301DropOfEach(t *testing.T) {
	all := []int{0, 1, 10, 2, 3, 11, 12, 4, 5, 6, 7, 13, 14, 15, 16}
	for _, gone := range all {
		p := New(all...)
		drops(t, p, gone, true)
		for want := range 17 {
			if want != gone && slices.Contains(all, want) {
				takes(t, p, want)
			}
		}
		bare(t, p)
	}
}

func TestP301ItsOwn(t *testing.T) {
	room := []int{5, 4, 3, 77}
	in := room[:3]
	p := New(in...)
	takes(t, p, 3)
	p.Put(1, 2)
	p.Put(in...)
	if !slices.Equal(room, []int{5, 4, 3, 77}) {
		t.Error("what was handed in is", room)
	}
	in[0], in[1], in[2] = 90, 91, 92
	lists(t, p, 1, 2, 3, 4, 4, 5, 5)
	out := p.List()
	for i := range out {
		out[i] = 99
	}
	out = append(out[:0], -9)
	lists(t, p, 1, 2, 3, 4, 4, 5, 5)
	takes(t, p, 1)
	if out[0] != -9 {
		t.Error("what was told is", out)
	}
}

// A pile beside a plain sorted list.
func TestP301Walk(t *testing.T) {
	x, p, plain := dice(3), New(), []int{}
	for i := range 4000 {
		v := x.roll(40) - 20
		switch n := x.roll(8); {
		case n < 3:
			l := make([]int, x.roll(4))
			for i := range l {
				l[i] = x.roll(40) - 20
			}
			p.Put(l...)
			plain = append(plain, l...)
			slices.Sort(plain)
		case n < 5:
			at, is := slices.BinarySearch(plain, v)
			drops(t, p, v, is)
			if is {
				plain = slices.Delete(plain, at, at+1)
			}
		case len(plain) > 0:
			takes(t, p, plain[0])
			plain = plain[1:]
		default:
			bare(t, p)
		}
		lists(t, p, plain...)
		if t.Failed() {
			t.Fatal("at step", i)
		}
	}
}

func TestP303Pile(t *testing.T) {
	var none *Pile
	none.Put(1, 2)
	bare(t, none)
	drops(t, none, 0, false)
	drops(t, none, 1, false)
	bare(t, new(Pile))
	drops(t, new(Pile), 0, false)
	var zero Pile
	zero.Put(2, 1)
	lists(t, &zero, 1, 2)
	drops(t, &zero, 2, true)
	takes(t, &zero, 1)
	bare(t, &zero)
}

// dice strews numbers by a short rule.
type dice uint64

func (x *dice) roll(n int) int {
	*x = *x*6364136223846793005 + 1442695040888963407
	return int(uint64(*x) >> 33 % uint64(n))
}
