package tree

import (
	"strings"
	"testing"

	"arboretum/api"
	"arboretum/page"
)

// packed makes a tree in which a Put below "a" may split all on its way: a full leaf, a full branch, which is the root.
func packed(t *testing.T, b bed) int {
	t.Helper()
	kids := wide(t, b, long("b", 40), long("c", 40), long("d", 40), long("e", 40), long("f", 34))
	return b.page(t, api.PageBranch, 0, branchBody(t, kids...))
}

func TestP1103PutWithoutRoomChangesNothing(t *testing.T) {
	const need = 9 + 2 + 2 + 1 // a chain, two leaves, two branches, a root
	for loose := range need + 2 {
		for behind := range need + 2 - loose {
			b := made(t, 60, 2)
			root := packed(t, b)
			b = b.narrow(t, loose, behind)
			want := b.draw(t, root).values
			key, value := long("a4", 40), strings.Repeat("v", 2000)
			if loose+behind < need {
				b.unput(t, root, key, value, api.ErrFull)
				b.unput(t, root, key, value, api.ErrFull)
				b.has(t, root, want)
				continue
			}
			want[key] = value
			b.has(t, b.put(t, root, key, value), want)
		}
	}
}

func TestP1103DeleteWithoutRoomChangesNothing(t *testing.T) {
	for room := range 5 {
		b := made(t, 60, 2)
		root := b.put(t, tall(t, b), "c", strings.Repeat("c", 1000))
		b = b.narrow(t, room, 0)
		want := b.draw(t, root).values
		if room < 3 {
			b.undel(t, root, "c", api.ErrFull)
			b.undel(t, root, "p", api.ErrFull)
			b.has(t, root, want)
			continue
		}
		delete(want, "c")
		b.has(t, b.del(t, root, "c"), want)
	}
	b := made(t, 60, 2) // a root that gives way needs no room
	root := b.branch(t, "", b.keys(t, "a"), "m", b.keys(t, "m"))
	b = b.narrow(t, 0, 0)
	b.looks(t, b.del(t, root, "a"), "[m]")
}

func TestP1103WithoutRoomForWhatWasMadeHere(t *testing.T) {
	b := made(t, 14, 2)
	root := packed(t, b) // on the pages 2 to 8
	want := b.draw(t, root).values
	for range 3 {
		b.unput(t, root, long("a4", 40), strings.Repeat("v", 300), api.ErrFull)
		b.has(t, root, want)
	}
	want["a1"] = "new" // there is room for these: what failed has taken none
	b.has(t, b.put(t, root, "a1", "new"), want)
}

// Each page that stands behind all is an operation of the device: the power fails at each of them.
func TestP1103WithoutPowerNothingChanges(t *testing.T) {
	const need = 9 + 2 + 2 + 1
	for fuse := range need + 1 {
		b := made(t, 60, 2)
		root := packed(t, b)
		b = b.next(t, 2)
		b.dev.Sync()
		want := b.draw(t, root).values
		key, value := long("a4", 40), strings.Repeat("v", 2000)
		b.dev.Fuse(fuse)
		if fuse == need {
			want[key] = value
			root = b.put(t, root, key, value)
		} else {
			b.unput(t, root, key, value, api.ErrOff)
			b.onWay(t, "no power", root, "a1", api.ErrOff)
			b.inAll(t, "no power", root, api.ErrOff)
		}
		b.dev.Restore()
		b.has(t, root, want)
	}
	for fuse := range 4 {
		b := made(t, 60, 2)
		root := b.put(t, tall(t, b), "c", strings.Repeat("c", 1000))
		b = b.narrow(t, 0, 10) // no page is free
		b.dev.Sync()
		want := b.draw(t, root).values
		b.dev.Fuse(fuse)
		if fuse == 3 {
			delete(want, "c")
			root = b.del(t, root, "c")
		} else {
			b.undel(t, root, "c", api.ErrOff)
		}
		b.dev.Restore()
		b.has(t, root, want)
	}
}

// What was made here is in memory: it is read and changed without power.
func TestP1103WhatIsMadeHereNeedsNoPower(t *testing.T) {
	b := made(t, 60, 30, 20, 21, 22, 23, 24, 25, 26, 27, 28, 29, 2, 3, 4, 5)
	r := tall(t, b)
	b.dev.Crash()
	want := b.draw(t, r).values
	b.has(t, r, want)
	want["c"] = "new"
	r = b.put(t, r, "c", "new")
	delete(want, "t")
	b.has(t, b.del(t, r, "t"), want)
}

// faults are contents of pages that show by themselves that they are none of a tree, wherever they stand.
func faults(t *testing.T, id int) map[string]api.Page {
	t.Helper()
	l, b := leafBody(t, items("a")...), branchBody(t, children("", 2, "b", 3)...)
	return map[string]api.Page{
		"kind 1":                     {Kind: 1, Body: l},
		"kind 4":                     {Kind: 4, Body: l},
		"kind 5":                     {Kind: 5, Body: b},
		"kind 6":                     {Kind: 6, Body: l},
		"kind 255":                   {Kind: 255, Body: b},
		"no leaf's body":             {Kind: 2, Body: "x"},
		"a branch's body in a leaf":  {Kind: 2, Body: b},
		"a leaf with more behind":    {Kind: 2, Body: l + "\x00"},
		"keys that do not rise":      {Kind: 2, Body: l + l},
		"no child":                   {Kind: 3},
		"no branch's body":           {Kind: 3, Body: "x"},
		"a leaf's body in a branch":  {Kind: 3, Body: l},
		"a branch with more behind":  {Kind: 3, Body: b + "\x00"},
		"a branch that has no first": {Kind: 3, Body: b[2:]},
		"a leaf with a Next":         {Kind: 2, Next: id, Body: l},
		"a leaf with another Next":   {Kind: 2, Next: 1<<32 - 1, Body: l},
		"a branch with a Next":       {Kind: 3, Next: 1, Body: b},
	}
}

// hooked makes a tree of three levels, on the way to whose key "a" a page stands on a level; there are pages on both sides of it.
func hooked(t *testing.T, b bed, id, level int) int {
	t.Helper()
	switch level {
	case 1:
		return id
	case 2:
		return b.branch(t, "", b.branch(t, "", b.keys(t, "A")), "a", id, "m", b.branch(t, "", b.keys(t, "m")))
	}
	return hooked(t, b, b.branch(t, "", b.keys(t, "a"), "aa", id, "b", b.keys(t, "b")), level-1)
}

func TestP1103APageThatIsNoneOfATree(t *testing.T) {
	for level := 1; level <= 3; level++ {
		for what, x := range faults(t, 2) {
			b := made(t, 60, 2)
			root := hooked(t, b, b.page(t, x.Kind, x.Next, x.Body), level)
			b.onWay(t, what, root, "ab", api.ErrCorrupt)
			b.inAll(t, what, root, api.ErrCorrupt)
			b = b.next(t, 2) // on the device as well
			b.onWay(t, what, root, "ab", api.ErrCorrupt)
			b.inAll(t, what, root, api.ErrCorrupt)
			if level > 1 {
				b.offWay(t, root, "A")
				b.offWay(t, root, "m")
			}
			if level > 2 {
				b.offWay(t, root, "a")
				b.offWay(t, root, "b")
			}
		}
	}
}

// offWay holds that nothing is wrong on the way to a key that has itself as its value, in a tree of an elder state.
func (b bed) offWay(t *testing.T, root int, key string) {
	t.Helper()
	if s, e := Get(b.pager, root, key); e != api.OK || s != key {
		t.Errorf("Get(%q): %q, %d", key, s, e)
	}
	r := b.put(t, root, key, "new")
	if s, e := Get(b.pager, r, key); e != api.OK || s != "new" {
		t.Errorf("Get(%q): %q, %d", key, s, e)
	}
	r = b.put(t, b.put(t, r, key, key), key+"+", "")
	r = b.del(t, r, key)
	b.unget(t, r, key, api.ErrNone)
	b.pager.Undo()
}

func TestP1103ALeafBelowABranchHasAnItem(t *testing.T) {
	for level := 2; level <= 3; level++ {
		b := made(t, 60, 2)
		root := hooked(t, b, b.keys(t), level)
		b.onWay(t, "no item", root, "ab", api.ErrCorrupt)
		b.inAll(t, "no item", root, api.ErrCorrupt)
	}
	b := made(t, 60, 2)
	b.has(t, b.keys(t), nil)
}

func TestP1103ARootThatIsABranchHasTwoChildren(t *testing.T) {
	b := made(t, 60, 2)
	one := b.branch(t, "", b.keys(t, "a", "ab"))
	b.onWay(t, "one child", one, "ab", api.ErrCorrupt)
	b.inAll(t, "one child", one, api.ErrCorrupt)
	root := b.branch(t, "", one)
	b.onWay(t, "one child", root, "ab", api.ErrCorrupt)
	b.inAll(t, "one child", root, api.ErrCorrupt)
	root = b.branch(t, "", one, "m", b.branch(t, "", b.keys(t, "m")))
	b.looks(t, root, "(([a ab]) m:([m]))")
}

// What Read tells of a page on the way is told.
func TestP1103ReadsErrors(t *testing.T) {
	for level := 1; level <= 3; level++ {
		for want, spoil := range map[api.Errno]func(b bed, id int){
			api.ErrNone: func(b bed, id int) { b.pager.Drop(id) },
			api.ErrSum: func(b bed, id int) {
				s, _ := b.dev.Read(id)
				b.dev.Write(id, s[:20]+"\xff"+s[21:])
			},
			api.ErrForm: func(b bed, id int) {
				s, _ := page.Seal(id+1, api.Page{Kind: 2})
				b.dev.Write(id, s)
			},
		} {
			b := made(t, 60, 2)
			id := b.keys(t, "ab", "ac")
			root := hooked(t, b, id, level)
			b = b.next(t, 2)
			spoil(b, id)
			b.onWay(t, "an error of Read", root, "ab", want)
			b.inAll(t, "an error of Read", root, want)
		}
		b := made(t, 60, 2)
		for _, id := range []int{90, 1<<32 - 1, 0, 1, -1, -1 << 63, 1<<63 - 1} {
			if level > 1 && (id < 2 || id > 1<<32-1) {
				continue // no branch has such a child
			}
			root := hooked(t, b, id, level)
			b.onWay(t, "no page", root, "ab", api.ErrIndex)
			b.inAll(t, "no page", root, api.ErrIndex)
		}
	}
}

// Chains: a value whose chain is broken is neither told nor replaced nor taken out; its neighbours are.
func TestP1103AChainThatIsNone(t *testing.T) {
	last := func(n int) string { return strings.Repeat("v", n) }
	for what, f := range map[string]struct {
		first func(b bed) int
		size  int
		want  api.Errno
	}{
		"a leaf":       {func(b bed) int { return b.keys(t, "a") }, 100, api.ErrCorrupt},
		"too short":    {func(b bed) int { return b.page(t, 4, 0, last(99)) }, 100, api.ErrCorrupt},
		"too long":     {func(b bed) int { return b.page(t, 4, 0, last(101)) }, 100, api.ErrCorrupt},
		"ends early":   {func(b bed) int { return b.page(t, 4, 0, last(240)) }, 300, api.ErrCorrupt},
		"goes on":      {func(b bed) int { return b.page(t, 4, b.page(t, 4, 0, last(60)), last(100)) }, 100, api.ErrCorrupt},
		"no page":      {func(b bed) int { return 99 }, 100, api.ErrIndex},
		"a meta":       {func(b bed) int { return 1 }, 100, api.ErrIndex},
		"no next page": {func(b bed) int { return b.page(t, 4, 99, last(240)) }, 300, api.ErrIndex},
		"dropped": {func(b bed) int {
			id := b.page(t, 4, 0, last(100))
			b.pager.Drop(id)
			return id
		}, 100, api.ErrNone},
	} {
		for _, level := range []int{1, 3} { // where a leaf may stand
			b := made(t, 60, 2)
			id := b.leaf(t, api.Item{Key: "ab", Value: "ab"}, api.Item{Key: "ac", Over: 1, Size: 100}, api.Item{Key: "ad", Value: "ad"})
			root := hooked(t, b, id, level)
			first := f.first(b)
			b.pager.Put(id, api.Page{Kind: 2, Body: leafBody(t, api.Item{Key: "ab", Value: "ab"},
				api.Item{Key: "ac", Over: first, Size: f.size}, api.Item{Key: "ad", Value: "ad"})})
			b.onWay(t, what, root, "ac", f.want)
			b.inAll(t, what, root, f.want)
			b = b.next(t, 2)
			for _, key := range []string{"ab", "ad"} {
				b.offWay(t, root, key)
			}
		}
	}
}

// A root that gives way: what it gives way to is looked at.
func TestP1103ARootDoesNotGiveWayToNoTree(t *testing.T) {
	for _, x := range faults(t, 2) {
		for depth := range 3 {
			b := made(t, 60, 2)
			id := b.page(t, x.Kind, x.Next, x.Body)
			for range depth {
				id = b.branch(t, "", id)
			}
			root := b.branch(t, "", b.keys(t, "a"), "m", id)
			other := b.branch(t, "", b.keys(t, "a", "aa"), "m", id)
			b.undel(t, root, "a", api.ErrCorrupt)
			b = b.next(t, 2)
			b.undel(t, root, "a", api.ErrCorrupt)
			b.offWay(t, other, "a")
		}
	}
	b := made(t, 60, 2)
	root := b.branch(t, "", b.keys(t, "a"), "m", b.keys(t))
	b.undel(t, root, "a", api.ErrCorrupt)
	for _, id := range []int{70, 1<<32 - 1} {
		b.undel(t, b.branch(t, "", b.keys(t, "a"), "m", id), "a", api.ErrIndex)
		b.undel(t, b.branch(t, "", b.keys(t, "a"), "m", b.branch(t, "", id)), "a", api.ErrIndex)
	}
}

// A root never gives way to what is dropped: a page that stands at two places.
func TestP1103ARootDoesNotGiveWayToItsOwnWay(t *testing.T) {
	b := made(t, 60, 2)
	l := b.keys(t, "a")
	b.undel(t, b.branch(t, "", l, "m", l), "a", api.ErrCorrupt)
	b.undel(t, b.branch(t, "", l, "m", b.branch(t, "", l)), "a", api.ErrCorrupt)
	one := b.branch(t, "", l)
	b.undel(t, b.branch(t, "", one, "m", one), "a", api.ErrCorrupt)
	b.undel(t, b.branch(t, "", one, "m", l), "a", api.ErrCorrupt)
	loop := b.branch(t, "", l)
	b.pager.Put(loop, api.Page{Kind: 3, Body: branchBody(t, children("", loop)...)})
	b.undel(t, b.branch(t, "", l, "m", loop), "a", api.ErrCorrupt)
}

// What is looked at by those that walk all of a tree alone.
func TestP1103HeightsAndBounds(t *testing.T) {
	for what, f := range map[string]func(b bed) int{
		"a lower child behind":  func(b bed) int { return b.branch(t, "", b.branch(t, "", b.keys(t, "a")), "m", b.keys(t, "m")) },
		"a higher child behind": func(b bed) int { return b.branch(t, "", b.keys(t, "a"), "m", b.branch(t, "", b.keys(t, "m"))) },
		"a higher child further down": func(b bed) int {
			return b.branch(t, "", b.branch(t, "", b.keys(t, "a")), "m", b.branch(t, "", b.branch(t, "", b.keys(t, "m"))))
		},
		"heights of one branch": func(b bed) int {
			return b.branch(t, "", b.branch(t, "", b.keys(t, "a"), "b", b.branch(t, "", b.keys(t, "b"))), "m", b.branch(t, "", b.keys(t, "m")))
		},
		"a key at the next one":       func(b bed) int { return b.branch(t, "", b.keys(t, "a", "m"), "m", b.keys(t, "n")) },
		"a key above the next one":    func(b bed) int { return b.branch(t, "", b.keys(t, "a", "z"), "m", b.keys(t, "n")) },
		"a key below its own":         func(b bed) int { return b.branch(t, "", b.keys(t, "a"), "m", b.keys(t, "lz", "n")) },
		"all below their own":         func(b bed) int { return b.branch(t, "", b.keys(t, "a"), "m", b.keys(t, "b")) },
		"a last one above its parent": func(b bed) int { return b.deep(t, b.keys(t, "c", "m"), b.keys(t, "m")) },
		"a first one below it":        func(b bed) int { return b.deep(t, b.keys(t, "c"), b.keys(t, "l", "m")) },
		"a branch's key above it": func(b bed) int {
			return b.branch(t, "", b.branch(t, "", b.keys(t, "a"), "p", b.keys(t, "p")), "m", b.branch(t, "", b.keys(t, "m")))
		},
		"a branch's key below it": func(b bed) int {
			return b.branch(t, "", b.branch(t, "", b.keys(t, "a")), "m", b.branch(t, "", b.keys(t, "b"), "n", b.keys(t, "n")))
		},
		"a leaf at two places": func(b bed) int {
			l := b.keys(t, "a")
			return b.branch(t, "", l, "m", l)
		},
		"a branch at two places": func(b bed) int {
			l := b.branch(t, "", b.keys(t, "a"))
			return b.branch(t, "", l, "m", l)
		},
	} {
		b := made(t, 60, 2)
		root := f(b)
		b.inAll(t, what, root, api.ErrCorrupt)
		if s, e := Get(b.pager, root, "a"); s != "a" || e != api.OK {
			t.Errorf("%s: Get: %q, %d", what, s, e)
		}
		r := b.put(t, root, "a", "new")
		if s, e := Get(b.pager, r, "a"); s != "new" || e != api.OK {
			t.Errorf("%s: Get: %q, %d", what, s, e)
		}
		r = b.put(t, r, "0", "new")
		r = b.del(t, r, "a")
		b.unget(t, r, "a", api.ErrNone)
	}
}

// deep makes (([a] c:leaf) m:(leaf)).
func (b bed) deep(t *testing.T, low, high int) int {
	t.Helper()
	return b.branch(t, "", b.branch(t, "", b.keys(t, "a"), "c", low), "m", b.branch(t, "", high))
}

// A chain is of its own: no page of it stands in another one.
func TestP1103AChainAtTwoPlaces(t *testing.T) {
	b := made(t, 60, 2)
	end := b.page(t, 4, 0, strings.Repeat("z", 60))
	one, two := b.page(t, 4, end, strings.Repeat("a", 240)), b.page(t, 4, end, strings.Repeat("b", 240))
	for _, l := range [][]api.Item{
		{{Key: "a", Over: one, Size: 300}, {Key: "b", Over: one, Size: 300}},
		{{Key: "a", Over: one, Size: 300}, {Key: "b", Over: two, Size: 300}},
		{{Key: "a", Over: end, Size: 60 + 1}, {Key: "b", Value: "b"}},
	} {
		root := b.leaf(t, l...)
		b.inAll(t, "a chain at two places", root, api.ErrCorrupt)
		root = b.branch(t, "", b.leaf(t, l[0]), "b", b.leaf(t, l[1]))
		b.inAll(t, "a chain at two places", root, api.ErrCorrupt)
	}
	root := b.leaf(t, api.Item{Key: "a", Over: one, Size: 300})
	b.has(t, root, map[string]string{"a": strings.Repeat("a", 240) + strings.Repeat("z", 60)})
}

// tower makes a tree of so many levels, with "a" to the left and two leaves below each other on the right.
func tower(t *testing.T, b bed, levels int) int {
	t.Helper()
	left, right := b.keys(t, "a"), b.keys(t, "m")
	for range levels - 2 {
		left, right = b.branch(t, "", left), b.branch(t, "", right)
	}
	return b.branch(t, "", left, "m", right)
}

func TestP1103ATreeThatIsTooHigh(t *testing.T) {
	for levels := 28; levels <= 34; levels++ {
		b := made(t, 200, 2)
		root := tower(t, b, levels)
		if levels > 30 {
			b.onWay(t, "too high", root, "a", api.ErrCorrupt)
			b.onWay(t, "too high", root, "m", api.ErrCorrupt)
			b.inAll(t, "too high", root, api.ErrCorrupt)
			continue
		}
		if h, e := Height(b.pager, root); h != levels || e != api.OK {
			t.Errorf("Height: %d, %d, not %d", h, e, levels)
		}
		b.has(t, root, map[string]string{"a": "a", "m": "m"})
		b = b.next(t, 2)
		r := b.put(t, root, "b", "b")
		b.has(t, r, map[string]string{"a": "a", "m": "m", "b": "b"})
		b.pager.Undo()
		b.looks(t, b.del(t, root, "a"), "[m]")
	}
	b := made(t, 200, 2) // what a branch on the last level leads to is not looked at
	id := 150
	for range 28 {
		id = b.branch(t, "", id)
	}
	root := b.branch(t, "", id, "m", id)
	b.onWay(t, "no page on the last level", root, "a", api.ErrIndex)
	b.inAll(t, "no page on the last level", root, api.ErrIndex)
	id = b.branch(t, "", id)
	root = b.branch(t, "", id, "m", id)
	b.onWay(t, "a branch on the last level", root, "a", api.ErrCorrupt)
	b.inAll(t, "a branch on the last level", root, api.ErrCorrupt)
	b.undel(t, b.branch(t, "", b.keys(t, "a"), "m", id), "a", api.ErrCorrupt)
}

func TestP1103ATreeForEver(t *testing.T) {
	b := made(t, 60, 2)
	id := b.page(t, 3, 0, "")
	for _, l := range [][]api.Child{children("", id, "m", id), children("", b.keys(t, "A"), "a", id), children("", id, "z", b.keys(t, "z"))} {
		b.pager.Put(id, api.Page{Kind: 3, Body: branchBody(t, l...)})
		b.onWay(t, "for ever", id, "ab", api.ErrCorrupt)
		b.inAll(t, "for ever", id, api.ErrCorrupt)
	}
}

// brim makes a tree of so many levels in which all is full on the way to "a1".
func brim(t *testing.T, b bed, levels int) int {
	t.Helper()
	id := b.leaf(t, sized("a1", 60), sized("a3", 60), sized("a5", 60), sized("a7", 60))
	for level := 2; level <= levels; level++ {
		kids := []api.Child{{Page: id}}
		for _, c := range "12345" { // above all that stands further down
			key := long(string([]byte{byte('a' + level), byte(c)}), 40)
			beside := b.keys(t, key)
			for range level - 2 {
				beside = b.branch(t, "", beside)
			}
			kids = append(kids, api.Child{Key: key, Page: beside})
		}
		id = b.page(t, api.PageBranch, 0, branchBody(t, kids...))
	}
	return id
}

// A tree that nobody could read is not made.
func TestP1103NoTreeIsMadeTooHigh(t *testing.T) {
	for _, levels := range []int{2, 3, 7, 28, 29, 30} {
		b := made(t, 3000, 2)
		root := brim(t, b, levels)
		b = b.next(t, 2)
		want := b.draw(t, root).values
		key := long("a4", 40)
		if levels == 30 {
			b.unput(t, root, key, "v", api.ErrCorrupt)
			b.unput(t, root, key, strings.Repeat("v", 500), api.ErrCorrupt)
			b.has(t, root, want)
			want["a1"], want[key] = "new", "v" // where nothing is split there is no level more
			r := b.put(t, root, "a1", "new")
			b.has(t, b.put(t, r, key, "v"), want)
			continue
		}
		want[key] = "v"
		r := b.put(t, root, key, "v")
		b.has(t, r, want)
		if x := b.children(t, r); len(x) != 2 {
			t.Errorf("%d: the root has %v", levels, x)
		}
		if got := len(wayOf(t, b, r, key)); got != levels+1 {
			t.Errorf("%d: the new tree has %d levels", levels, got)
		}
	}
}

// Keys that stand beyond their bounds can't be laid into the branch above when their leaf is split.
func TestP1103ASplitBeyondItsBounds(t *testing.T) {
	begin := func() (bed, int) {
		b := made(t, 60, 2)
		far := b.leaf(t, sized("a1", 60), sized("n3", 60), sized("n5", 60), sized("n7", 60))
		near := b.leaf(t, sized("m1", 60))
		return b, b.branch(t, "", far, "m", near, "p", b.keys(t, "q"))
	}
	b, root := begin()
	b.unput(t, root, "a2", strings.Repeat("v", 55), api.ErrCorrupt)
	b.unput(t, root, "a2", strings.Repeat("v", 500), api.ErrCorrupt)
	b = b.next(t, 2)
	b.unput(t, root, "a2", strings.Repeat("v", 55), api.ErrCorrupt)
	root = b.put(t, root, "a1", "") // where nothing is split, nobody sees it
	if s, e := Get(b.pager, b.put(t, root, "a2", "v"), "a2"); s != "v" || e != api.OK {
		t.Error("Get:", s, e)
	}
	b, _ = begin()
	far := b.leaf(t, sized("a1", 60), sized("m", 60), sized("n5", 60), sized("n7", 60))
	root = b.branch(t, "", far, "m", b.keys(t, "mm"))
	b.unput(t, root, "a2", sized("a2", 62).Value, api.ErrCorrupt) // "m" would stand there twice
}
