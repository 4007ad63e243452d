package tree

import (
	"fmt"
	"slices"
	"strings"
	"testing"

	"arboretum/api"
	"arboretum/pager"
)

func TestP1101Example(t *testing.T) {
	b := made(t, 50, 2)
	r, e := New(b.pager)
	if e != api.OK {
		t.Fatal("New:", e)
	}
	r = b.put(t, r, "a", "1")
	r = b.put(t, r, "a", "2")
	if s, e := Get(b.pager, r, "a"); s != "2" || e != api.OK {
		t.Error("Get:", s, e)
	}
	r = b.del(t, r, "a")
	b.unget(t, r, "a", api.ErrNone)
	b.undel(t, r, "a", api.ErrNone)
	b.has(t, r, nil)
}

func TestP1101NewMakesALeafWithoutItems(t *testing.T) {
	b := made(t, 50, 9, 4, 7)
	for _, want := range []int{4, 7, 9, 10} {
		r, e := New(b.pager)
		if r != want || e != api.OK {
			t.Errorf("New: %d, %d, not %d", r, e, want)
		}
		if x, e := b.pager.Read(r); x != (api.Page{Kind: 2}) || e != api.OK {
			t.Errorf("New: %#v, %d", x, e)
		}
		b.has(t, r, nil)
	}
	b = made(t, 2, 2)
	if r, e := New(b.pager); r != 0 || e != api.ErrFull {
		t.Error("New without room:", r, e)
	}
	b = made(t, 9, 2)
	b.dev.Crash()
	if r, e := New(b.pager); r != 0 || e != api.ErrOff {
		t.Error("New without power:", r, e)
	}
}

// Keys and values are refused ahead of the first page that is read.
func TestP1101WrongArguments(t *testing.T) {
	b := made(t, 50, 2)
	r := b.keys(t, "a", "b")
	long, great := strings.Repeat("k", 41), strings.Repeat("v", 2001)
	for _, root := range []int{r, 0, -1, 99} {
		for _, key := range []string{"", long, strings.Repeat("\x00", 41), strings.Repeat("k", 4000)} {
			b.onWay(t, "a wrong key", root, key, api.ErrArg)
			b.unput(t, root, key, great, api.ErrArg)
		}
		for _, key := range []string{"a", "b", "c", long[1:]} {
			b.unput(t, root, key, great, api.ErrArg)
			b.unput(t, root, key, strings.Repeat("v", 100000), api.ErrArg)
		}
	}
	b.looks(t, r, "[a b]")
}

func TestP1101KeysAtTheirLimits(t *testing.T) {
	b := made(t, 200, 2)
	r, _ := New(b.pager)
	want := map[string]string{}
	for i, key := range []string{"\x00", "\xff", "k", strings.Repeat("k", 40), strings.Repeat("\xff", 40), strings.Repeat("\x00", 40),
		strings.Repeat("k", 39), "\x00\x00", "\xff\x00", "\xc3\xa9"} {
		r = b.put(t, r, key, fmt.Sprint(i))
		want[key] = fmt.Sprint(i)
		b.has(t, r, want)
	}
	for key := range want {
		r = b.del(t, r, key)
		b.unget(t, r, key, api.ErrNone)
	}
	b.has(t, r, nil)
}

func TestP1101ValuesAtTheirLimits(t *testing.T) {
	d := dice(1)
	for n, chain := range map[int]int{0: 0, 1: 0, 59: 0, 60: 0, 61: 1, 239: 1, 240: 1, 241: 2, 480: 2, 481: 3, 1999: 9, 2000: 9} {
		b := made(t, 60, 2)
		r, value := b.keys(t, "a", "c"), d.text(n)
		r = b.put(t, r, "b", value)
		b.has(t, r, map[string]string{"a": "a", "b": value, "c": "c"})
		if l := b.pager.Made(); len(l) != 1+chain {
			t.Errorf("%d bytes: %v are made, not %d", n, l, 1+chain)
		}
	}
}

// tall makes the tree (([a b] c:[c d]) m:([n] p:[p q]) t:([t u])).
func tall(t *testing.T, b bed) int {
	t.Helper()
	one := b.branch(t, "", b.keys(t, "a", "b"), "c", b.keys(t, "c", "d"))
	two := b.branch(t, "", b.keys(t, "n"), "p", b.keys(t, "p", "q"))
	return b.branch(t, "", one, "m", two, "t", b.branch(t, "", b.keys(t, "t", "u")))
}

func TestP1101GetOfEachKey(t *testing.T) {
	b := made(t, 50, 2)
	r := tall(t, b)
	b.looks(t, r, "(([a b] c:[c d]) m:([n] p:[p q]) t:([t u]))")
	for _, key := range []string{"\x00", "A", "aa", "bz", "c\x00", "e", "lz", "m", "mz", "na", "o", "p0", "r", "s", "tt", "v", "\xff"} {
		b.unget(t, r, key, api.ErrNone)
		b.undel(t, r, key, api.ErrNone)
	}
}

func TestP1101PutOfEachKey(t *testing.T) {
	for _, key := range []string{"\x00", "a", "aa", "b", "bz", "c", "e", "m", "n", "o", "p", "s", "t", "tt", "u", "\xff"} {
		b := made(t, 50, 2)
		r := tall(t, b)
		want := b.draw(t, r).values
		want[key] = "new"
		b.has(t, b.put(t, r, key, "new"), want)
		want[key] = strings.Repeat("new", 300)
		b = made(t, 50, 2)
		r = b.put(t, tall(t, b), key, want[key])
		b.has(t, r, want)
	}
}

func TestP1101DeleteOfEachKey(t *testing.T) {
	for _, key := range []string{"a", "b", "c", "d", "n", "p", "q", "t", "u"} {
		b := made(t, 50, 2)
		r := tall(t, b)
		want := b.draw(t, r).values
		delete(want, key)
		r = b.del(t, r, key)
		b.has(t, r, want)
		b.unget(t, r, key, api.ErrNone)
		b.undel(t, r, key, api.ErrNone)
	}
}

func TestP1105WithoutAPager(t *testing.T) {
	for _, p := range []*pager.Pager{nil, new(pager.Pager)} {
		r, e := New(p)
		s, f := Get(p, 2, "a")
		w, g := Put(p, 2, "a", "b")
		v, h := Put(p, 2, "a", strings.Repeat("b", 2000))
		x, i := Delete(p, 2, "a")
		y, j := Height(p, 2)
		z, k := Count(p, 2)
		l, m := Pages(p, 2)
		if r != 0 || s != "" || w != 0 || v != 0 || x != 0 || y != 0 || z != 0 || len(l) != 0 {
			t.Error("answers:", r, s, w, v, x, y, z, l)
		}
		if got := []api.Errno{e, f, g, h, i, j, k, m, Drop(p, 2)}; !slices.Equal(got, slices.Repeat([]api.Errno{api.ErrArg}, 9)) {
			t.Error("errors:", got)
		}
	}
}

// What is told is new memory, and what is handed in may do as it likes.
func TestP1101AnswersAreTheirOwn(t *testing.T) {
	b := made(t, 50, 2)
	key, value := []byte("key"), []byte(strings.Repeat("v", 50))
	r, _ := New(b.pager)
	r = b.put(t, r, string(key), string(value))
	key[0], value[0] = 'x', 'x'
	b.has(t, r, map[string]string{"key": strings.Repeat("v", 50)})
	l, _ := Pages(b.pager, r)
	clear(l)
	b.has(t, r, map[string]string{"key": strings.Repeat("v", 50)})
}

// A walk of many transactions beside plain maps: each elder state tells the same for ever.
func TestP1105WalkBesideMaps(t *testing.T) {
	type state struct {
		root int
		want map[string]string
	}
	d, b := dice(7), made(t, 3000, 2)
	r, _ := New(b.pager)
	is, elder := map[string]string{}, []state{}
	for txn := 1; txn < 60; txn++ {
		for range 1 + d.roll(12) {
			key := strings.Repeat(string(rune('a'+d.roll(26))), 1+d.roll(3)) + strings.Repeat("z", d.roll(2)*d.roll(37))
			if _, there := is[key]; there && d.roll(3) == 0 || txn%20 > 14 && len(is) > 0 {
				for k := range is { // one that is there
					key = min(k, key)
				}
				if _, there := is[key]; there {
					r = b.del(t, r, key)
					delete(is, key)
				} else {
					b.undel(t, r, key, api.ErrNone)
				}
				continue
			}
			is[key] = d.text(d.roll(80) + d.roll(2)*d.roll(2)*d.roll(900))
			r = b.put(t, r, key, is[key])
		}
		want := map[string]string{}
		for k, v := range is {
			want[k] = v
		}
		b.has(t, r, want)
		elder = append(elder, state{r, want})
		b = b.next(t, txn+1)
		for _, x := range []state{elder[0], elder[d.roll(len(elder))], elder[len(elder)-1]} {
			b.has(t, x.root, x.want)
		}
		if t.Failed() {
			t.Fatal("at transaction", txn)
		}
	}
	for _, x := range elder {
		b.has(t, x.root, x.want)
	}
}

// Within one transaction there is nothing made but the tree's pages.
func TestP1105WalkInOneTransaction(t *testing.T) {
	d, b := dice(8), made(t, 3000, 2)
	r, _ := New(b.pager)
	is, highest := map[string]string{}, 0
	key := func() string {
		n := d.roll(300)
		return fmt.Sprintf("%03d", n) + strings.Repeat("k", n%38)
	}
	step := func(puts int) {
		k := key()
		if d.roll(10) < puts {
			is[k] = d.text(d.roll(70))
			r = b.put(t, r, k, is[k])
		} else if _, there := is[k]; there {
			r = b.del(t, r, k)
			delete(is, k)
		} else {
			b.undel(t, r, k, api.ErrNone)
			b.unget(t, r, k, api.ErrNone)
		}
	}
	for i := range 4000 {
		step([]int{9, 5, 1, 3}[i/1000])
		if i%50 == 0 || len(is) < 20 {
			x := b.has(t, r, is)
			highest = max(highest, x.height)
			if l := b.pager.Made(); !slices.Equal(l, x.pages) {
				t.Fatalf("step %d: %v are made, not %v", i, l, x.pages)
			}
		}
	}
	if highest < 4 {
		t.Error("no tree was higher than", highest)
	}
	for k := range is {
		r = b.del(t, r, k)
	}
	b.looks(t, r, "[]")
}
