package branch

import (
	"slices"
	"strings"
	"testing"

	"arboretum/api"
)

// three are children whose spare room holds something.
func three() []api.Child {
	return []api.Child{at("", 2), at("m", 3), at("t", 4), at("spare", 5)}[:3]
}

func TestP902Find(t *testing.T) {
	for _, c := range []struct {
		key  string
		want int
	}{
		{"m", 1}, {"a", 0}, {"", 0}, {"\x00", 0}, {"lz", 0}, {"m\x00", 1}, {"s", 1}, {"t", 2}, {"tt", 2}, {"\xff", 2}, {strings.Repeat("z", 5000), 2},
	} {
		if i := Find(three(), c.key); i != c.want {
			t.Errorf("Find(%q): %d", c.key, i)
		}
	}
	for _, l := range [][]api.Child{nil, {}, {at("", 2)}, {at("b", 2)}, {at("b", 2), at("c", 3)}} {
		if i := Find(l, "a"); i != 0 {
			t.Errorf("Find in %#v: %d", l, i)
		}
	}
	alike := []api.Child{at("", 2), at("", 3), at("a", 4), at("a", 5), at("a", 6), at("b", 7)}
	if a, b := Find(alike, "a"), Find(alike, ""); a != 4 || b != 1 { // the last one, of keys that are alike
		t.Error(a, b)
	}
}

// The places of keys, by looking at one behind the other.
func TestP902FindAll(t *testing.T) {
	var d dice = 904
	for n := range 70 {
		l := d.children(n + 1)
		if d.roll(4) == 0 {
			l = l[1:] // so there may be none that is not above
		}
		for i, x := range l {
			if got := Find(l, x.Key); got != i {
				t.Fatalf("Find(%#v) of %#v: %d, not %d", x.Key, l, got, i)
			}
		}
		for range 40 {
			key := d.text(d.roll(4))
			want := 0
			for i, x := range l {
				if x.Key <= key {
					want = i
				}
			}
			if got := Find(l, key); got != want {
				t.Fatalf("Find(%#v) of %#v: %d, not %d", key, l, got, want)
			}
		}
	}
}

// listed looks at a list.
func listed(t *testing.T, what string, got []api.Child, want ...api.Child) {
	t.Helper()
	if !slices.Equal(got, want) {
		t.Errorf("%s: %#v, not %#v", what, got, want)
	}
}

func TestP902Replace(t *testing.T) {
	a, m, z := at("", 2), at("m", 3), at("t", 4)
	listed(t, "one by one", Replace(three(), 1, at("m", 7)), a, at("m", 7), z)
	listed(t, "one by two", Replace(three(), 1, at("m", 7), at("p", 8)), a, at("m", 7), at("p", 8), z)
	listed(t, "the last by three", Replace(three(), 2, at("t", 7), at("u", 8), at("v", 9)), a, m, at("t", 7), at("u", 8), at("v", 9))
	listed(t, "the first by two", Replace(three(), 0, at("", 7), at("b", 8)), at("", 7), at("b", 8), m, z)
	listed(t, "one by none", Replace(three(), 1), a, z)
	listed(t, "the last by none", Replace(three(), 2), a, m)
	listed(t, "the only one", Replace(three()[:1], 0, at("", 7)), at("", 7))
	listed(t, "the only one by none", Replace(three()[:1], 0))
	listed(t, "whatever they are", Replace(three(), 1, at("z", -1), at("", 0), api.Child{}), a, at("z", -1), at("", 0), api.Child{}, z)
}

// The first of all has the empty key, whatever it had.
func TestP902ReplaceFirst(t *testing.T) {
	m, z := at("m", 3), at("t", 4)
	listed(t, "by none", Replace(three(), 0), at("", 3), z)
	listed(t, "by one", Replace(three(), 0, at("q", 7)), at("", 7), m, z)
	listed(t, "by two", Replace(three(), 0, at("q", 7), at("r", 8)), at("", 7), at("r", 8), m, z)
	listed(t, "not there itself", Replace([]api.Child{at("a", 2), m, z}, 1, at("n", 7)), at("", 2), at("n", 7), z)
	listed(t, "the only one", Replace([]api.Child{m}, 0, z), at("", 4))
}

func TestP902ReplaceNoPlace(t *testing.T) {
	for _, i := range []int{-1, 3, 4, low, high} {
		listed(t, "no place", Replace(three(), i, at("n", 7)), three()...)
		listed(t, "no place, by none", Replace(three(), i), three()...)
	}
	for _, i := range []int{-1, 0, 1} {
		listed(t, "of nothing", Replace(nil, i, at("n", 7)))
	}
	as := []api.Child{at("a", 2), at("b", 3)}
	listed(t, "as it was", Replace(as, 2, at("n", 7)), as...)
}

// A list in which children are replaced beside a map.
func TestP902Walk(t *testing.T) {
	var d dice = 905
	here := map[string]int{"": 2}
	l := []api.Child{at("", 2)}
	for range 4000 {
		key, n := d.text(1), d.page()
		i := Find(l, key)
		switch x := l[i]; {
		case x.Key == key || i > 0 && d.roll(3) == 0: // it goes, and its keys stand below the one ahead
			delete(here, x.Key)
			l = Replace(l, i)
		case d.roll(2) == 0:
			here[x.Key] = n
			l = Replace(l, i, at(x.Key, n))
		default:
			here[key] = n
			l = Replace(l, i, x, at(key, n))
		}
		if !slices.Equal(l, sorted(here)) {
			t.Fatalf("%#v, not %#v", l, sorted(here))
		}
	}
}

func TestP902NeverChanged(t *testing.T) {
	x := []api.Child{at("x", 8), at("y", 9), at("spare", 5)}
	for name, f := range map[string]func(l []api.Child) []api.Child{
		"by none":           func(l []api.Child) []api.Child { return Replace(l, 1) },
		"the first by none": func(l []api.Child) []api.Child { return Replace(l, 0) },
		"the last by none":  func(l []api.Child) []api.Child { return Replace(l, 2) },
		"by two":            func(l []api.Child) []api.Child { return Replace(l, 1, x[:2]...) },
		"the first by two":  func(l []api.Child) []api.Child { return Replace(l, 0, x[:2]...) },
		"the last by two":   func(l []api.Child) []api.Child { return Replace(l, 2, x[:2]...) },
		"the only one":      func(l []api.Child) []api.Child { return Replace(l[:1], 0, x[:1]...) },
		"by their own":      func(l []api.Child) []api.Child { return Replace(l, 0, l...) },
		"no place":          func(l []api.Child) []api.Child { return Replace(l, 3, x[:2]...) },
		"first of a split":  func(l []api.Child) []api.Child { a, _ := Split(l); return a },
		"second of a split": func(l []api.Child) []api.Child { _, b := Split(l); return b },
		"split of one":      func(l []api.Child) []api.Child { a, _ := Split(l[:1]); return a },
	} {
		l := three()
		got := f(l)
		for i := range got {
			got[i] = at("changed", 1)
		}
		_ = append(got, at("behind", 1))
		if want := append(three(), at("spare", 5)); !slices.Equal(l[:4], want) {
			t.Errorf("%s: %#v, not %#v", name, l[:4], want)
		}
		listed(t, name+": what was put there", x, at("x", 8), at("y", 9), at("spare", 5))
	}
	l := three()
	a, b := Split(l)
	_ = append(a, at("changed", 1))
	listed(t, "the part behind", b, l[len(a):]...)
}

// parted looks at a Split that lets so many children stand in the first part.
func parted(t *testing.T, n int, l ...api.Child) {
	t.Helper()
	a, b := Split(l)
	listed(t, "the first part", a, l[:n]...)
	listed(t, "the second part", b, l[n:]...) // its first one has its key
}

func TestP902Split(t *testing.T) {
	long := func(key string) api.Child { return at(key+strings.Repeat("x", 20), 9) }
	a, b, c, d := at("", 2), at("b", 3), at("c", 4), at("d", 5)
	parted(t, 0)
	parted(t, 1, a)
	parted(t, 1, long("a"))
	parted(t, 1, a, b)
	parted(t, 1, a, long("b"))
	parted(t, 2, a, b, c) // 5 and 3 bytes
	parted(t, 2, a, b, c, d)
	parted(t, 1, a, at("bb", 3), at("", 4)) // 2 and 6 bytes, or 6 and 2: the shorter first part
	parted(t, 1, b, c, d)
	parted(t, 2, a, long("b"), c) // 25 and 3, not 2 and 26
	parted(t, 3, a, b, c, long("d"))
	parted(t, 1, long("a"), b, c, d)                                   // whatever they are
	parted(t, 3, a, b, c, at("dd", page))                              // by their pages' bytes too: 8 and 8
	parted(t, 3, a, b, at("c", page), at("d", 1<<33), a)               // 12 and 9, not 5 and 16
	parted(t, 1, api.Child{Page: low}, api.Child{}, b, c)              // 11 and 8
	parted(t, 2, a, at(strings.Repeat("b", 10), 3), at("cccccccc", 4)) // the second part's first key counts: 14 and 10, not 2 and 22
}

// The best place, by trying all of them.
func TestP902SplitAll(t *testing.T) {
	var d dice = 906
	for range 3000 {
		l := d.children(2 + d.roll(12))
		if d.roll(2) == 0 { // all alike: places that are as good
			for i := range l {
				l[i] = at(string([]byte{byte(i)}), 2)
			}
		}
		best := 1
		greater := func(n int) int { return max(len(bytesOf(l[:n]...)), len(bytesOf(l[n:]...))) }
		for n := range len(l) {
			if n > 0 && greater(n) < greater(best) {
				best = n
			}
		}
		parted(t, best, l...)
	}
}

// Of right children that are one more than fit both parts fit, the second one's first key taken off.
func TestP903BothFit(t *testing.T) {
	var d dice = 907
	for range 3000 {
		l := d.children(1)
		for Fits(l...) {
			key := d.text(1 + d.roll(1+d.roll(40)))
			if d.roll(5) == 0 { // as great as one may be
				key = d.text(40)
			}
			i := Find(l, key)
			if l[i].Key != key {
				l = Replace(l, i, l[i], at(key, d.page()))
			}
		}
		bothFit(t, l)
	}
}

// bothFit looks at the parts of children that are one more than fit.
func bothFit(t *testing.T, l []api.Child) {
	t.Helper()
	if e := last(Put(l...)); e != api.ErrLong {
		t.Fatalf("%#v: %d", l, e)
	}
	a, b := Split(l)
	if len(a) == 0 || len(b) == 0 || !slices.Equal(slices.Concat(a, b), l) {
		t.Fatalf("%#v and %#v, not %#v", a, b, l)
	}
	off := Replace(b, 0, b[0])
	if !Fits(a...) || !Fits(off...) || Size(off...) != Size(b...)-len(b[0].Key) {
		t.Fatalf("%#v and %#v", a, off)
	}
}

func last(_ string, e api.Errno) api.Errno { return e }

// The greatest ones there may be: five fill a page as far as they can, the least of them at each place, and one more comes.
func TestP903Greatest(t *testing.T) {
	for small := 1; small < 7; small++ {
		l := []api.Child{at("", 2)} // 2 bytes, and 46 of each but the small one
		for i := 1; i < 7; i++ {
			key := string([]byte{byte('a' + i)}) + strings.Repeat("k", 39)
			if i == small {
				key = key[:2] // 8 bytes
			}
			l = append(l, at(key, page))
		}
		if Size(l...) != api.Body {
			t.Fatal(Size(l...))
		}
		if !Fits(l...) {
			t.Fatal("a whole page does not fit")
		}
		bothFit(t, append(l, at("z"+strings.Repeat("k", 39), page)))
	}
}
