package pile

import (
	"slices"
	"testing"
)

func puts(t *testing.T, l *Line, at, what, want int) {
	t.Helper()
	if seq := l.Put(at, what); seq != want {
		t.Errorf("Put(%d, %d): %d, not %d", at, what, seq, want)
	}
}

// fires looks that one is due at now.
func fires(t *testing.T, l *Line, now int, want Due) {
	t.Helper()
	if d, ok := l.Take(now); d != want || !ok {
		t.Errorf("Take(%d): %v %v, not %v", now, d, ok, want)
	}
}

// idle looks that none is due at now.
func idle(t *testing.T, l *Line, now int) {
	t.Helper()
	if d, ok := l.Take(now); d != (Due{}) || ok {
		t.Errorf("Take(%d): %v %v", now, d, ok)
	}
}

// stands looks at what a line tells of all that it holds.
func stands(t *testing.T, l *Line, want ...Due) {
	t.Helper()
	if got := l.List(); !slices.Equal(got, want) || l.Len() != len(want) {
		t.Errorf("%d due %v, not %v", l.Len(), got, want)
	}
	d, ok := l.First()
	if ok != (len(want) > 0) || ok && d != want[0] || !ok && d != (Due{}) {
		t.Errorf("First: %v %v of %v", d, ok, want)
	}
}

func TestP302Example(t *testing.T) {
	l := NewLine()
	puts(t, l, 5, 7, 1)
	puts(t, l, 3, 8, 2)
	puts(t, l, 5, 9, 3)
	fires(t, l, 4, Due{3, 2, 8})
	idle(t, l, 4)
	fires(t, l, 5, Due{5, 1, 7})
	stands(t, l, Due{5, 3, 9})
}

func TestP302Seq(t *testing.T) {
	l := NewLine()
	for i := range 5 {
		puts(t, l, -i, i, i+1)
	}
	for range 5 {
		l.Take(greatest)
	}
	stands(t, l)
	puts(t, l, 0, 0, 6) // one that is gone gives its Seq to none
	NewLine().Put(0, 0)
	puts(t, l, 0, 0, 7) // nor does another line count along
	stands(t, l, Due{0, 6, 0}, Due{0, 7, 0})
}

func TestP302SeqEnds(t *testing.T) {
	l := &Line{seq: 1<<62 - 2}
	puts(t, l, 4, 1, 1<<62-1)
	puts(t, l, 3, 2, 1<<62)
	puts(t, l, 2, 3, 1<<62)
	stands(t, l, Due{2, 1 << 62, 3}, Due{3, 1 << 62, 2}, Due{4, 1<<62 - 1, 1})
}

func TestP302Order(t *testing.T) {
	l := NewLine()
	for i, at := range []int{0, 9, greatest, -4, 9, least, 0, 9} {
		puts(t, l, at, 100-i, i+1)
	}
	want := []Due{{least, 6, 95}, {-4, 4, 97}, {0, 1, 100}, {0, 7, 94}, {9, 2, 99}, {9, 5, 96}, {9, 8, 93}, {greatest, 3, 98}}
	stands(t, l, want...)
	for i, d := range want {
		fires(t, l, greatest, d)
		stands(t, l, want[i+1:]...)
	}
	idle(t, l, greatest)
}

// Of those with one At it is the Seq that says who is first, whatever What is.
func TestP302OneAt(t *testing.T) {
	l := NewLine()
	for i := range 100 {
		puts(t, l, 1, -i, i+1)
	}
	for i := range 100 {
		fires(t, l, 1, Due{1, i + 1, -i})
	}
	idle(t, l, 1)
}

func TestP302Take(t *testing.T) {
	l := NewLine()
	idle(t, l, greatest)
	l.Put(0, 0)
	idle(t, l, -1)
	idle(t, l, least)
	stands(t, l, Due{0, 1, 0})
	fires(t, l, 0, Due{0, 1, 0})
	l.Put(7, 3)
	idle(t, l, 6)
	fires(t, l, 8, Due{7, 2, 3})
	l.Put(least, 3)
	fires(t, l, least, Due{least, 3, 3})
	l.Put(greatest, greatest)
	idle(t, l, greatest-1)
	fires(t, l, greatest, Due{greatest, 4, greatest})
	idle(t, l, greatest)
	stands(t, l)
}

func TestP302ItsOwn(t *testing.T) {
	l := NewLine()
	l.Put(2, 20)
	l.Put(1, 10)
	out := l.List()
	out[0], out[1] = Due{9, 9, 9}, Due{8, 8, 8}
	out = append(out[:0], Due{7, 7, 7})
	stands(t, l, Due{1, 2, 10}, Due{2, 1, 20})
	fires(t, l, 1, Due{1, 2, 10})
	if out[0] != (Due{7, 7, 7}) {
		t.Error("what was told is", out)
	}
}

// A line beside a plain list in which the first one is looked for.
func TestP302Walk(t *testing.T) {
	x, l, plain, seq := dice(4), NewLine(), []Due{}, 0
	for i := range 4000 {
		at := x.roll(30) - 15
		if x.roll(2) == 0 {
			seq++
			puts(t, l, at, i, seq)
			place := 0
			for place < len(plain) && plain[place].At <= at { // all that stand there have lower Seqs
				place++
			}
			plain = slices.Insert(plain, place, Due{at, seq, i})
		} else if len(plain) > 0 && plain[0].At <= at {
			fires(t, l, at, plain[0])
			plain = plain[1:]
		} else {
			idle(t, l, at)
		}
		stands(t, l, plain...)
		if t.Failed() {
			t.Fatal("at step", i)
		}
	}
}

func TestP303Line(t *testing.T) {
	var none *Line
	puts(t, none, 1, 2, 0)
	puts(t, none, 1, 2, 0)
	idle(t, none, greatest)
	stands(t, none)
	stands(t, NewLine())
	stands(t, new(Line))
	idle(t, new(Line), greatest)
	var zero Line
	puts(t, &zero, 6, 2, 1)
	puts(t, &zero, 5, 2, 2)
	stands(t, &zero, Due{5, 2, 2}, Due{6, 1, 2})
	fires(t, &zero, 5, Due{5, 2, 2})
}
