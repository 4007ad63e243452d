package leaf

import (
	"slices"
	"strings"
	"testing"

	"arboretum/api"
)

// abc are items whose spare room holds something.
func abc() []api.Item {
	return []api.Item{in("a", "1"), in("c", "3"), in("e", "5"), in("spare", "")}[:3]
}

func TestP802Find(t *testing.T) {
	for _, c := range []struct {
		key  string
		want int
		is   bool
	}{
		{"a", 0, true}, {"c", 1, true}, {"e", 2, true},
		{"", 0, false}, {"A", 0, false}, {"aa", 1, false}, {"b", 1, false}, {"c\x00", 2, false}, {"d", 2, false}, {"f", 3, false}, {"\xff", 3, false},
	} {
		if i, is := Find(abc(), c.key); i != c.want || is != c.is {
			t.Errorf("Find(%q): %d, %v", c.key, i, is)
		}
	}
	if i, is := Find(nil, "a"); i != 0 || is {
		t.Error(i, is)
	}
	if i, is := Find(abc()[:1], "z"); i != 1 || is {
		t.Error(i, is)
	}
}

// The places of keys, by looking at one behind the other.
func TestP802FindAll(t *testing.T) {
	var d dice = 804
	for n := range 70 {
		l := d.items(n)
		for i, x := range l {
			if at, is := Find(l, x.Key); at != i || !is {
				t.Fatalf("Find(%#v) of %#v: %d, %v", x.Key, l, at, is)
			}
		}
		for range 40 {
			key := d.text(1 + d.roll(3))
			want := 0
			for want < n && l[want].Key < key {
				want++
			}
			if at, is := Find(l, key); at != want || is != (want < n && l[want].Key == key) {
				t.Fatalf("Find(%#v) of %#v: %d, %v", key, l, at, is)
			}
		}
	}
}

// listed looks at a list.
func listed(t *testing.T, what string, got []api.Item, want ...api.Item) {
	t.Helper()
	if !slices.Equal(got, want) {
		t.Errorf("%s: %#v, not %#v", what, got, want)
	}
}

func TestP802Set(t *testing.T) {
	a, c, e := in("a", "1"), in("c", "3"), in("e", "5")
	listed(t, "put in", Set(abc(), in("b", "2")), a, in("b", "2"), c, e)
	listed(t, "put in ahead", Set(abc(), in("A", "2")), in("A", "2"), a, c, e)
	listed(t, "put in behind", Set(abc(), in("z", "")), a, c, e, in("z", ""))
	listed(t, "in the place of the first", Set(abc(), in("a", "9")), in("a", "9"), c, e)
	listed(t, "in the place of the last", Set(abc(), far("e", 2, 61)), a, c, far("e", 2, 61))
	listed(t, "the same", Set(abc(), c), a, c, e)
	listed(t, "into nothing", Set(nil, c), c)
	listed(t, "no right one", Set(abc(), api.Item{Size: 3}), api.Item{Size: 3}, a, c, e)
}

func TestP802Del(t *testing.T) {
	a, c, e := in("a", "1"), in("c", "3"), in("e", "5")
	listed(t, "the first", Del(abc(), "a"), c, e)
	listed(t, "one between", Del(abc(), "c"), a, e)
	listed(t, "the last", Del(abc(), "e"), a, c)
	listed(t, "the only one", Del(abc()[:1], "a"))
	for _, key := range []string{"", "b", "z", "cc"} {
		listed(t, "one that is not there", Del(abc(), key), a, c, e)
	}
	listed(t, "of nothing", Del(nil, "a"))
}

// A list that is set and deleted beside a map.
func TestP802Walk(t *testing.T) {
	var d dice = 805
	here := map[string]api.Item{}
	var l []api.Item
	for range 4000 {
		key := d.text(1)
		if d.roll(3) > 0 {
			x := d.right(key)
			here[key] = x
			l = Set(l, x)
		} else {
			delete(here, key)
			l = Del(l, key)
		}
		if !slices.Equal(l, sorted(here)) {
			t.Fatalf("%#v, not %#v", l, sorted(here))
		}
	}
}

func TestP802NeverChanged(t *testing.T) {
	for name, f := range map[string]func(l []api.Item) []api.Item{
		"put in ahead":      func(l []api.Item) []api.Item { return Set(l, in("A", "")) },
		"put in":            func(l []api.Item) []api.Item { return Set(l, in("b", "")) },
		"put in behind":     func(l []api.Item) []api.Item { return Set(l, in("z", "")) },
		"set":               func(l []api.Item) []api.Item { return Set(l, in("c", "9")) },
		"delete":            func(l []api.Item) []api.Item { return Del(l, "a") },
		"delete the last":   func(l []api.Item) []api.Item { return Del(l, "e") },
		"delete none":       func(l []api.Item) []api.Item { return Del(l, "b") },
		"first of a split":  func(l []api.Item) []api.Item { a, _ := Split(l); return a },
		"second of a split": func(l []api.Item) []api.Item { _, b := Split(l); return b },
		"split of one":      func(l []api.Item) []api.Item { a, _ := Split(l[:1]); return a },
	} {
		l := abc()
		got := f(l)
		for i := range got {
			got[i] = in("changed", "")
		}
		_ = append(got, in("behind", ""))
		if want := append(abc(), in("spare", "")); !slices.Equal(l[:4], want) {
			t.Errorf("%s: %#v, not %#v", name, l[:4], want)
		}
	}
	l := abc()
	a, b := Split(l)
	_ = append(a, in("changed", ""))
	listed(t, "the part behind", b, in("c", "3"), in("e", "5"))
}

// parted looks at a Split that lets so many items stand in the first part.
func parted(t *testing.T, n int, l ...api.Item) {
	t.Helper()
	a, b := Split(l)
	listed(t, "the first part", a, l[:n]...)
	listed(t, "the second part", b, l[n:]...)
}

func TestP802Split(t *testing.T) {
	long := func(key string) api.Item { return in(key, strings.Repeat("x", 20)) }
	a, b, c, d, e := in("a", ""), in("b", ""), in("c", ""), in("d", ""), in("e", "")
	parted(t, 0)
	parted(t, 1, a)
	parted(t, 1, long("a"))
	parted(t, 1, a, b)
	parted(t, 1, a, long("b"))
	parted(t, 1, long("a"), b)
	parted(t, 1, a, b, c) // 4 and 8 bytes, or 8 and 4: the shorter first part
	parted(t, 2, a, b, c, d)
	parted(t, 2, a, b, c, d, e)
	parted(t, 1, a, long("b"), c)
	parted(t, 1, long("a"), b, c, d)
	parted(t, 3, a, b, c, long("d"))
	parted(t, 2, a, far("b", 1<<20, 2000), c, d) // by bytes, not by what it has elsewhere
}

// The best place, by trying all of them.
func TestP802SplitAll(t *testing.T) {
	var d dice = 806
	for range 3000 {
		l := d.items(2 + d.roll(12))
		if d.roll(2) == 0 { // all alike: places that are as good
			for i := range l {
				l[i] = in(string([]byte{byte(i)}), "v")
			}
		}
		best := 1
		greater := func(n int) int { return max(len(bytesOf(l[:n]...)), len(bytesOf(l[n:]...))) }
		for n := range len(l) {
			if n > 0 && greater(n) < greater(best) {
				best = n
			}
		}
		parted(t, best, l...)
	}
}

// Of right items that are one more than fit both parts fit.
func TestP803BothFit(t *testing.T) {
	var d dice = 807
	for range 3000 {
		var l []api.Item
		for Fits(l...) {
			n := 1 + d.roll(1+d.roll(40))
			x := d.right(d.text(n))
			if d.roll(5) == 0 { // as great as one may be
				x = in(d.text(40), d.text(60))
			}
			l = Set(l, x)
		}
		a, b := Split(l)
		if len(a) == 0 || len(b) == 0 || !Fits(a...) || !Fits(b...) {
			t.Fatalf("%#v and %#v", a, b)
		}
		if !slices.Equal(slices.Concat(a, b), l) {
			t.Fatalf("%#v and %#v, not %#v", a, b, l)
		}
	}
}

// The greatest ones there may be: three fill a page wholly, the least of them at each place, and a fourth comes.
func TestP803Greatest(t *testing.T) {
	for small := range 4 {
		var l []api.Item
		for i := range 4 {
			key, value := strings.Repeat("k", 39), strings.Repeat("v", 60) // 103 bytes
			if i == small {
				key, value = key[:20], value[:10] // 34 bytes
			}
			l = append(l, in(string([]byte{byte('a' + i)})+key, value))
		}
		if Size(l...) != api.Body+103 {
			t.Fatal(Size(l...))
		}
		if a, b := Split(l); Fits(l...) || !Fits(a...) || !Fits(b...) {
			t.Errorf("%d: %d and %d bytes", small, Size(a...), Size(b...))
		}
	}
}
