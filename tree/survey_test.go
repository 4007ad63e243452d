package tree

import (
	"strings"
	"testing"

	"arboretum/api"
)

func TestP1104AllOfATree(t *testing.T) {
	d := dice(5)
	b := made(t, 120, 90, 80, 40, 60, 20, 77, 33, 51)
	r := tall(t, b)
	want := b.draw(t, r).values
	for _, n := range []int{0, 60, 61, 700, 2000} {
		key := string(rune('a' + n%26))
		want[key] = d.text(n)
		r = b.put(t, r, key, want[key])
	}
	b = b.next(t, 2)
	want["q"] = d.text(900)
	r = b.put(t, r, "q", want["q"])
	x := b.has(t, r, want)
	if n, _ := Height(b.pager, r); n != 3 {
		t.Error("Height:", n)
	}
	if n, _ := Count(b.pager, r); n != len(want) {
		t.Error("Count:", n)
	}
	if l, _ := Pages(b.pager, r); len(l) != len(x.pages) {
		t.Error("Pages:", l)
	}
}

func TestP1104SmallTrees(t *testing.T) {
	b := made(t, 60, 2)
	r, _ := New(b.pager)
	for n := range 5 {
		h, e := Height(b.pager, r)
		k, f := Count(b.pager, r)
		l, g := Pages(b.pager, r)
		if h != 1 || k != n || len(l) != 1 || l[0] != r || e != api.OK || f != api.OK || g != api.OK {
			t.Error(n, h, e, k, f, l, g)
		}
		r = b.put(t, r, strings.Repeat("k", n+1), "")
	}
}

// Pages that were made here and pages of an elder state: all of them are dropped, and no other.
func TestP1104DropDropsAll(t *testing.T) {
	b := made(t, 200, 2)
	other := tall(t, b)
	root := b.put(t, packed(t, b), "c", strings.Repeat("c", 1000))
	b = b.next(t, 2)
	elder := b.draw(t, root)
	b.has(t, root, elder.values)
	if e := Drop(b.pager, root); e != api.OK {
		t.Fatal("Drop:", e)
	}
	if l := b.pager.Dropped(); len(l) != len(elder.pages) || l[0] != elder.pages[0] || len(b.pager.Made()) != 0 {
		t.Errorf("dropped %v, not %v", l, elder.pages)
	}
	b.inAll(t, "a tree that is dropped", root, api.ErrNone)
	b.onWay(t, "a tree that is dropped", root, "a1", api.ErrNone)
	b.looks(t, other, "(([a b] c:[c d]) m:([n] p:[p q]) t:([t u]))")

	r := b.put(t, other, "q", strings.Repeat("q", 300)) // some of it is new, some is old
	x := b.draw(t, r)
	if e := Drop(b.pager, r); e != api.OK || len(b.pager.Made()) != 0 {
		t.Error("Drop:", e, b.pager.Made())
	}
	for _, id := range x.pages {
		if _, e := b.pager.Read(id); e == api.OK {
			t.Error("page", id, "is there")
		}
	}
	b.pager.Undo()
	b.looks(t, other, "(([a b] c:[c d]) m:([n] p:[p q]) t:([t u]))")
	b.has(t, root, elder.values)
	r, _ = New(b.pager)
	if e := Drop(b.pager, r); e != api.OK || len(b.pager.Made()) != 0 || len(b.pager.Dropped()) != 0 {
		t.Error("Drop of an empty one:", e)
	}
}
