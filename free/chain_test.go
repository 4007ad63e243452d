package free

import (
	"encoding/binary"
	"slices"
	"strings"
	"testing"

	"arboretum/api"
)

const most = 1<<32 - 1 // the greatest number of a chain

// bytesOf lays numbers by another hand than the program's.
func bytesOf(l ...int) string {
	var b []byte
	for _, v := range l {
		b = binary.LittleEndian.AppendUint32(b, uint32(v))
	}
	return string(b)
}

// chained looks at a Chain that goes well.
func chained(t *testing.T, l []int, want ...string) {
	t.Helper()
	if b, e := Chain(l); !slices.Equal(b, want) || e != api.OK {
		t.Errorf("Chain(%v): %q, %d, not %q", l, b, e, want)
	}
}

// unchained looks at what Unchain tells.
func unchained(t *testing.T, want []int, e api.Errno, bodies ...string) {
	t.Helper()
	if l, f := Unchain(bodies...); !slices.Equal(l, want) || f != e {
		t.Errorf("Unchain(%q): %v, %d, not %v, %d", bodies, l, f, want, e)
	}
}

// many tells so many numbers that are neither rising nor all different.
func many(n int) []int {
	var d dice = 60
	l := make([]int, n)
	for i := range l {
		l[i] = d.roll(1<<31) * 2
		if i%7 == 6 {
			l[i] = l[i-3]
		}
	}
	return l
}

func TestP603Chain(t *testing.T) {
	chained(t, nil)
	chained(t, []int{})
	chained(t, []int{0}, "\x00\x00\x00\x00")
	chained(t, []int{0x04030201, 9, most, 9}, "\x01\x02\x03\x04"+"\x09\x00\x00\x00"+"\xff\xff\xff\xff"+"\x09\x00\x00\x00")
}

func TestP603ChainSixtyInEach(t *testing.T) {
	for _, n := range []int{1, 59, 60, 61, 119, 120, 121, 125, 180, 3000} {
		l := many(n)
		var want []string
		for from := 0; from < n; from += 60 {
			want = append(want, bytesOf(l[from:min(from+60, n)]...))
		}
		chained(t, l, want...)
		if len(want[0]) != min(4*n, api.Body) {
			t.Errorf("%d bytes of %d numbers", len(want[0]), n)
		}
	}
}

func TestP603ChainRefuses(t *testing.T) {
	for _, v := range []int{-1, low, most + 1, high, 1 << 40, -most} {
		for _, at := range []int{0, 1, 59, 60, 130} {
			l := many(131)
			l[at] = v
			if b, e := Chain(l); len(b) != 0 || e != api.ErrArg {
				t.Errorf("Chain with %d at %d: %q, %d", v, at, b, e)
			}
		}
		if b, e := Chain([]int{v}); len(b) != 0 || e != api.ErrArg {
			t.Errorf("Chain of %d: %q, %d", v, b, e)
		}
	}
}

func TestP603ChainLeavesItsNumbers(t *testing.T) {
	room := many(70)
	chained(t, room[:3], bytesOf(room[:3]...))
	Chain(room[:61])
	if !slices.Equal(room, many(70)) {
		t.Error("what was handed in is", room)
	}
}

func TestP603Unchain(t *testing.T) {
	unchained(t, nil, api.OK)
	unchained(t, nil, api.OK, "")
	unchained(t, nil, api.OK, "", "", "")
	unchained(t, []int{513, most, 3}, api.OK, "\x01\x02\x00\x00", "", "\xff\xff\xff\xff\x03\x00\x00\x00")
	unchained(t, []int{0, 0x80000000}, api.OK, "\x00\x00\x00\x00\x00\x00\x00\x80")
	unchained(t, []int{7, 5, 7}, api.OK, bytesOf(7), bytesOf(5), bytesOf(7))
}

// A body is read whatever its length: how many numbers a page has is for Chain alone.
func TestP603UnchainLongBodies(t *testing.T) {
	l := many(61)
	unchained(t, l, api.OK, bytesOf(l...))
	unchained(t, l, api.OK, bytesOf(l[:1]...), bytesOf(l[1:]...))
}

func TestP603UnchainRefuses(t *testing.T) {
	for n := range 300 {
		b := strings.Repeat("\x01", n)
		if n%4 == 0 {
			continue
		}
		unchained(t, nil, api.ErrForm, b)
		unchained(t, nil, api.ErrForm, b, bytesOf(8))
		unchained(t, nil, api.ErrForm, bytesOf(8, 9), "", b)
		unchained(t, nil, api.ErrForm, b, b, b, b) // all four together would be whole numbers
	}
}

func TestP603UnchainOfChain(t *testing.T) {
	for n := range 200 {
		l := many(n)
		b, e := Chain(l)
		if e != api.OK {
			t.Fatalf("Chain of %d numbers: %d", n, e)
		}
		unchained(t, l, api.OK, b...)
	}
}

// What a file's free pages are is the same behind a Chain and an Unchain.
func TestP603AllInAChain(t *testing.T) {
	f := New(many(80)...)
	f.Give(3, many(50)...)
	b, _ := Chain(f.All())
	l, _ := Unchain(b...)
	again := New(l...)
	holds(t, again, f.All(), nil)
	if len(b) != 3 || again.Len() != 130 {
		t.Errorf("%d bodies of %d pages", len(b), again.Len())
	}
}
