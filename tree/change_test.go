package tree

import (
	"slices"
	"strings"
	"testing"

	"arboretum/api"
	"arboretum/branch"
	"arboretum/leaf"
	"arboretum/page"
)

// wayOf tells the pages on the way to a key, by another hand than the program's.
func wayOf(t *testing.T, b bed, root int, key string) []int {
	t.Helper()
	l := []int{root}
	for {
		id := l[len(l)-1]
		x, _ := b.pager.Read(id)
		if x.Kind == api.PageLeaf {
			slices.Sort(l)
			return l
		}
		kids := b.children(t, id)
		l = append(l, kids[branch.Find(kids, key)].Page)
	}
}

// bytesOf tells what stands on the device.
func bytesOf(b bed) []string {
	var l []string
	for id := range b.dev.Len() {
		s, _ := b.dev.Read(id)
		l = append(l, s)
	}
	return l
}

func TestP1102EachPageOnTheWayIsMadeAnew(t *testing.T) {
	for _, del := range []bool{false, true} {
		for _, key := range []string{"a", "b", "c", "d", "p", "q", "t", "u"} {
			b := made(t, 60, 2)
			root := tall(t, b)
			b = b.next(t, 2)
			was, elder, way := bytesOf(b), b.draw(t, root), wayOf(t, b, root, key)
			var r int
			if del {
				r = b.del(t, root, key)
			} else {
				r = b.put(t, root, key, "new")
			}
			if l := b.pager.Dropped(); !slices.Equal(l, way) {
				t.Errorf("%q: dropped %v, not %v", key, l, way)
			}
			if l := b.pager.Made(); len(l) != len(way) || l[0] < elder.pages[len(elder.pages)-1] || !slices.Contains(l, r) {
				t.Errorf("%q: made %v, for %v; the root is %d", key, l, way, r)
			}
			for id, s := range bytesOf(b)[:len(was)] {
				if s != was[id] {
					t.Errorf("%q: page %d has changed", key, id)
				}
			}
			b = b.next(t, 3)
			b.has(t, root, elder.values)
		}
	}
}

// What this transaction made is made anew as well, and its numbers may be taken again.
func TestP1102PagesMadeHereAreMadeAnewToo(t *testing.T) {
	b := made(t, 60, 2)
	r := tall(t, b)
	pages := b.pager.Pages()
	way := wayOf(t, b, r, "q")
	s := b.put(t, r, "q", "new")
	if l := b.pager.Spare(); s == r || !slices.Equal(l, way) {
		t.Errorf("%d and %d: %v are spare, not %v", r, s, l, way)
	}
	for i := range 20 {
		s = b.put(t, s, "q", strings.Repeat("v", i))
		s = b.put(t, s, "b", strings.Repeat("v", i))
	}
	if n := b.pager.Pages(); n != pages+3 {
		t.Error("pages:", n, "not", pages+3)
	}
	b.looks(t, s, "(([a b] c:[c d]) m:([n] p:[p q]) t:([t u]))")
}

// The same value again is made anew as well.
func TestP1102TheSameValueAgain(t *testing.T) {
	b := made(t, 60, 2)
	r := tall(t, b)
	b = b.next(t, 2)
	s := b.put(t, r, "c", "c")
	if len(b.pager.Made()) != 3 || len(b.pager.Dropped()) != 3 || s == r {
		t.Error(b.pager.Made(), b.pager.Dropped())
	}
	b.looks(t, s, "(([a b] c:[c d]) m:([n] p:[p q]) t:([t u]))")
}

// sized tells an item of so many bytes, 4 to 63.
func sized(key string, n int) api.Item {
	return api.Item{Key: key, Value: strings.Repeat("v", n-3-len(key))}
}

// leafTexts draws leaves.
func leafTexts(l ...[]api.Item) string {
	var words []string
	for _, items := range l {
		var keys []string
		for _, x := range items {
			keys = append(keys, x.Key)
		}
		words = append(words, "["+strings.Join(keys, " ")+"]")
	}
	return strings.Join(words, " ")
}

func TestP1102ALeafIsSplitIfItDoesNotFit(t *testing.T) {
	full := []api.Item{sized("b", 60), sized("d", 50), sized("f", 40), sized("h", 50)} // 200 bytes
	for _, key := range []string{"a", "b", "c", "d", "e", "f", "g", "h", "i"} {
		for n := 30; n <= 63; n++ {
			b := made(t, 60, 2)
			x := sized(key, n)
			l := leaf.Set(full, x)
			want := leafTexts(l)
			if leaf.Size(l...) > 240 {
				one, two := leaf.Split(l)
				want = "(" + leafTexts(one) + " " + two[0].Key + ":" + leafTexts(two) + ")"
			}
			r := b.put(t, b.leaf(t, full...), key, x.Value)
			b.looks(t, r, want)
		}
	}
	b := made(t, 60, 2)
	r := b.put(t, b.leaf(t, full...), "z", sized("z", 40).Value)
	b.looks(t, r, "[b d f h z]") // 240 bytes
	r = b.put(t, r, "z", sized("z", 41).Value)
	b.looks(t, r, "([b d] f:[f h z])")
}

// A leaf that is split below a branch: its place there has both parts, wherever it stands.
func TestP1102APartStandsBesideTheOther(t *testing.T) {
	full := func(c string) []api.Item {
		return []api.Item{sized(c+"1", 60), sized(c+"3", 60), sized(c+"5", 60), sized(c+"7", 60)}
	}
	for key, want := range map[string]string{
		"a0": "([a0 a1 a3] a5:[a5 a7] b:[b1 b3 b5 b7] c:[c1 c3 c5 c7])",
		"b":  "([a1 a3 a5 a7] b:[b b1 b3] b5:[b5 b7] c:[c1 c3 c5 c7])",
		"c8": "([a1 a3 a5 a7] b:[b1 b3 b5 b7] c:[c1 c3] c5:[c5 c7 c8])",
	} {
		b := made(t, 60, 2)
		r := b.branch(t, "", b.leaf(t, full("a")...), "b", b.leaf(t, full("b")...), "c", b.leaf(t, full("c")...))
		b.looks(t, b.put(t, r, key, sized(key, 58).Value), want)
	}
}

// wide makes children of keys, each with as many bytes, that hold a leaf each; the first one's leaf is full.
func wide(t *testing.T, b bed, keys ...string) []api.Child {
	t.Helper()
	first := b.leaf(t, sized("a1", 60), sized("a3", 60), sized("a5", 60), sized("a7", 60))
	l := []api.Child{{Page: first}}
	for _, k := range keys {
		l = append(l, api.Child{Key: k, Page: b.keys(t, k)})
	}
	return l
}

// long tells a key of so many bytes.
func long(c string, n int) string { return c + strings.Repeat("k", n-len(c)) }

// A branch that another child is one too many for is split as chapter 9 says, and a root has a branch above it then.
func TestP1102ABranchIsSplitIfItDoesNotFit(t *testing.T) {
	for n := 1; n <= 40; n++ {
		b := made(t, 60, 2)
		kids := wide(t, b, long("b", 40), long("c", 40), long("d", 40), long("e", 40), long("f", n))
		r := b.page(t, api.PageBranch, 0, branchBody(t, kids...))
		want := b.draw(t, r).values
		want[long("a4", 34)] = "v"
		r = b.put(t, r, long("a4", 34), "v")
		d := b.has(t, r, want)
		l := branch.Replace(kids, 0, kids[0], api.Child{Key: long("a4", 34), Page: 9})
		if branch.Fits(l...) != (d.height == 2) || branch.Fits(l...) != (n <= 32) {
			t.Errorf("%d: %d bytes, %s", n, branch.Size(l...), d.text)
		}
		if branch.Fits(l...) {
			continue
		}
		one, two := branch.Split(l)
		top := b.children(t, r)
		if len(top) != 2 || top[1].Key != two[0].Key {
			t.Fatalf("%d: the root has %v, not %q between", n, top, two[0].Key)
		}
		two[0].Key = ""
		for i, want := range [][]api.Child{one, two} {
			if got := b.children(t, top[i].Page); !slices.EqualFunc(got, want, sameKey) {
				t.Errorf("%d: part %d has %v, not %v", n, i, got, want)
			}
		}
	}
}

func sameKey(a, b api.Child) bool { return a.Key == b.Key }

// children tells what stands in a branch.
func (b bed) children(t *testing.T, id int) []api.Child {
	t.Helper()
	x, e := b.pager.Read(id)
	l, f := branch.Get(x.Body)
	if e != api.OK || f != api.OK {
		t.Fatal("no branch", id, e, f)
	}
	return l
}

// Below another branch a split one has both parts in its place.
func TestP1102ABranchIsSplitBelowAnother(t *testing.T) {
	for place := range 3 {
		b := made(t, 60, 2)
		kids := wide(t, b, long("b", 40), long("c", 40), long("d", 40), long("e", 40), long("f", 40))
		full := b.page(t, api.PageBranch, 0, branchBody(t, kids...))
		var r int
		switch place {
		case 0:
			r = b.branch(t, "", full, "m", b.branch(t, "", b.keys(t, "n")), "p", b.branch(t, "", b.keys(t, "q")))
		case 1:
			r = b.branch(t, "", b.branch(t, "", b.keys(t, "A")), "a", full, "p", b.branch(t, "", b.keys(t, "q")))
		case 2:
			r = b.branch(t, "", b.branch(t, "", b.keys(t, "A")), "M", b.branch(t, "", b.keys(t, "N")), "a", full)
		}
		want := b.has(t, r, b.draw(t, r).values).values
		want[long("a4", 40)] = "v"
		r = b.put(t, r, long("a4", 40), "v")
		top := b.children(t, r)
		if d := b.has(t, r, want); d.height != 3 || len(top) != 4 || top[place+1].Key != long("d", 40) {
			t.Errorf("place %d: %s, %v", place, d.text, top)
		}
	}
}

// crowd lays a branch of 240 bytes on page 60, whose children stand on pages from 2 on; page 64 is the next one.
func crowd(t *testing.T) (bed, []string) {
	t.Helper()
	keys := []string{"a", long("b", 40), long("c", 40), long("d", 40), long("e", 40), long("f", 40), long("g", 26)}
	b := made(t, 90, 64)
	var kids []api.Child
	for i, k := range keys {
		b.lay(t, 2+i, api.PageLeaf, leafBody(t, items(k, k[:1]+"z")...))
		kids = append(kids, api.Child{Key: k, Page: 2 + i})
	}
	kids[0].Key = ""
	body := branchBody(t, kids...)
	if len(body) != 240 {
		t.Fatal("the branch has", len(body))
	}
	b.lay(t, 60, api.PageBranch, body)
	return b, keys
}

// A page of a greater number needs more room: a branch may be split though it has no child more, by a Delete too.
func TestP1102AGreaterNumberSplitsABranch(t *testing.T) {
	_, keys := crowd(t)
	for i, k := range keys {
		for _, del := range []bool{false, true} {
			b, _ := crowd(t)
			want := b.has(t, 60, b.draw(t, 60).values).values
			var r int
			if del {
				delete(want, k)
				r = b.del(t, 60, k)
			} else {
				want[k] = "new"
				r = b.put(t, 60, k, "new")
			}
			if d := b.has(t, r, want); d.height != 3 || len(b.pager.Made()) != 4 {
				t.Errorf("%d, %v: %s, made %v", i, del, d.text, b.pager.Made())
			}
		}
		b, _ := crowd(t) // on a number as small as the old one it fits
		b.free.Back(61)
		b.free.Back(62)
		want := b.draw(t, 60).values
		want[k] = "new"
		r := b.put(t, 60, k, "new")
		if d := b.has(t, r, want); d.height != 2 || len(b.pager.Made()) != 2 {
			t.Errorf("%d: %s, made %v", i, d.text, b.pager.Made())
		}
	}
}

// A branch that only children of greater numbers make too long has its parts in its place as well.
func TestP1102AGreaterNumberSplitsABranchBelow(t *testing.T) {
	b, keys := crowd(t)
	b.lay(t, 58, api.PageBranch, branchBody(t, children("", 57)...))
	b.lay(t, 57, api.PageLeaf, leafBody(t, items("zz")...))
	b.lay(t, 59, api.PageBranch, branchBody(t, children("", 60, "z", 58)...))
	want := b.has(t, 59, b.draw(t, 59).values).values
	delete(want, keys[3])
	r := b.del(t, 59, keys[3])
	if d := b.has(t, r, want); d.height != 3 || len(b.pager.Made()) != 4 || len(b.children(t, r)) != 3 {
		t.Error(d.text, b.pager.Made())
	}
	if !branch.Fits(b.children(t, r)...) {
		t.Error("the root is none")
	}
}

func TestP1102AnEmptyLeafFallsAway(t *testing.T) {
	for key, want := range map[string]string{"a": "([c d] e:[e])", "e": "([a] c:[c d])", "c": "([a] c:[d] e:[e])"} {
		b := made(t, 60, 2)
		r := b.branch(t, "", b.keys(t, "a"), "c", b.keys(t, "c", "d"), "e", b.keys(t, "e"))
		b = b.next(t, 2)
		way := wayOf(t, b, r, key)
		s := b.del(t, r, key)
		b.looks(t, s, want)
		if l := b.pager.Dropped(); !slices.Equal(l, way) {
			t.Errorf("%q: dropped %v, not %v", key, l, way)
		}
	}
	b := made(t, 60, 2)
	r := b.branch(t, "", b.keys(t, "a"), "c", b.keys(t, "c"), "e", b.keys(t, "e"))
	b = b.next(t, 2)
	s := b.del(t, r, "c")
	b.looks(t, s, "([a] e:[e])")
	if l := b.pager.Made(); len(l) != 1 || len(b.pager.Dropped()) != 2 {
		t.Error("made", l, "dropped", b.pager.Dropped())
	}
	b.looks(t, b.put(t, s, "d", "d"), "([a d] e:[e])")
}

func TestP1102AnEmptyBranchFallsAway(t *testing.T) {
	one := func(b bed, key string) int { return b.branch(t, "", b.branch(t, "", b.keys(t, key))) }
	for key, want := range map[string]string{
		"a": "((([c])) e:(([e])))", "c": "((([a])) e:(([e])))", "e": "((([a])) c:(([c])))",
	} {
		b := made(t, 60, 2)
		r := b.branch(t, "", one(b, "a"), "c", one(b, "c"), "e", one(b, "e"))
		b.looks(t, r, "((([a])) c:(([c])) e:(([e])))")
		b = b.next(t, 2)
		way := wayOf(t, b, r, key)
		b.looks(t, b.del(t, r, key), want)
		if l := b.pager.Made(); len(l) != 1 || !slices.Equal(b.pager.Dropped(), way) {
			t.Errorf("%q: made %v, dropped %v, not %v", key, l, b.pager.Dropped(), way)
		}
	}
}

func TestP1102ARootWithOneChildGivesWay(t *testing.T) {
	begin := func(left, right func(b bed) int) (bed, int) {
		b := made(t, 150, 2)
		r := b.branch(t, "", left(b), "m", right(b))
		return b.next(t, 2), r
	}
	low := func(b bed) int { return b.keys(t, "a") }
	high := func(b bed) int { return b.keys(t, "n", "o") }
	deep := func(n int, f func(b bed) int) func(b bed) int {
		return func(b bed) int {
			id := f(b)
			for range n {
				id = b.branch(t, "", id)
			}
			return id
		}
	}
	pair := func(b bed) int { return b.branch(t, "", b.keys(t, "n"), "o", b.keys(t, "o")) }

	for n := range 29 {
		b, r := begin(deep(n, low), deep(n, high))
		all := b.draw(t, r).pages
		s := b.del(t, r, "a")
		b.looks(t, s, "[n o]")
		if l := b.pager.Made(); len(l) != 0 || len(b.pager.Dropped()) != len(all)-1 || slices.Contains(b.pager.Dropped(), s) {
			t.Errorf("%d: made %v, dropped %v of %v, the root is %d", n, l, b.pager.Dropped(), all, s)
		}
	}
	for n := range 28 {
		b, r := begin(deep(n+1, low), deep(n, pair))
		s := b.del(t, r, "a")
		b.looks(t, s, "([n] o:[o])")
		if l := b.pager.Made(); len(l) != 0 {
			t.Errorf("%d: made %v", n, l)
		}
		b, r = begin(deep(n+1, low), deep(n, pair)) // the other one goes: all the way to the leaf that is left
		r = b.del(t, r, "n")
		b.looks(t, b.del(t, r, "o"), "[a]")
	}
	b, r := begin(low, high) // no page but the leaf and the root is dropped, and none is made
	s := b.del(t, r, "a")
	if len(b.pager.Made()) != 0 || len(b.pager.Dropped()) != 2 {
		t.Error(b.pager.Made(), b.pager.Dropped())
	}
	b.looks(t, b.del(t, b.del(t, s, "o"), "n"), "[]")
}

// One child is too few for a root alone: below it a branch may have one.
func TestP1102ABranchBelowMayHaveOneChild(t *testing.T) {
	b := made(t, 60, 2)
	r := tall(t, b)
	r = b.del(t, r, "a")
	r = b.del(t, r, "b")
	b.looks(t, r, "(([c d]) m:([n] p:[p q]) t:([t u]))")
	r = b.put(t, r, "a", "a")
	b.looks(t, r, "(([a c d]) m:([n] p:[p q]) t:([t u]))")
	r = b.del(t, r, "n")
	r = b.put(t, r, "n", "n")
	b.looks(t, r, "(([a c d]) m:([n p q]) t:([t u]))")
}

func TestP1102ARootThatIsALeafMayBeEmpty(t *testing.T) {
	b := made(t, 60, 2)
	r := b.keys(t, "a", "b")
	b = b.next(t, 2)
	r = b.del(t, r, "b")
	b.looks(t, r, "[a]")
	r = b.del(t, r, "a")
	b.looks(t, r, "[]")
	b.looks(t, b.put(t, r, "c", "c"), "[c]")
}

// A value's chain goes with it, whether an elder state has it or not; another's stays.
func TestP1102TheChainOfAnOldValueIsDropped(t *testing.T) {
	d := dice(3)
	lengths := []int{0, 60, 61, 240, 241, 500, 2000}
	pieces := func(n int) int {
		if n <= 60 {
			return 0
		}
		return (n + 239) / 240
	}
	for _, elder := range []bool{false, true} {
		for _, from := range lengths {
			for _, to := range append(lengths, -1) {
				b := made(t, 90, 2)
				want := map[string]string{"a": d.text(700), "b": d.text(from)}
				r := b.put(t, b.put(t, b.keys(t), "a", want["a"]), "b", want["b"])
				chain := b.pager.Made()
				if elder {
					b = b.next(t, 2)
				}
				if to < 0 {
					delete(want, "b")
					r = b.del(t, r, "b")
				} else {
					want["b"] = d.text(to)
					r = b.put(t, r, "b", want["b"])
				}
				b.has(t, r, want)
				made, dropped := 1+pieces(max(to, 0)), 1+pieces(from)
				if !elder {
					made, dropped = made+3, 0
				}
				if len(b.pager.Made()) != made || len(b.pager.Dropped()) != dropped {
					t.Errorf("%d to %d: %v are made, %v dropped, of %v", from, to, b.pager.Made(), b.pager.Dropped(), chain)
				}
			}
		}
	}
}

// A leaf that falls away takes its last value's chain along.
func TestP1102TheChainOfALeafThatFalls(t *testing.T) {
	b := made(t, 90, 2)
	r := b.branch(t, "", b.keys(t, "a"), "m", b.keys(t, "m"), "t", b.keys(t, "t"))
	r = b.put(t, r, "m", strings.Repeat("m", 1000))
	r = b.put(t, r, "a", strings.Repeat("a", 1000))
	b = b.next(t, 2)
	r = b.del(t, r, "m")
	b.looks(t, r, "([a] t:[t])")
	if l := b.pager.Dropped(); len(l) != 2+5 || len(b.pager.Made()) != 1 {
		t.Error("dropped", l, "made", b.pager.Made())
	}
	r = b.del(t, r, "a")
	b.looks(t, r, "[t]")
	if l := b.pager.Dropped(); len(l) != 2+5+1+5 || len(b.pager.Made()) != 0 {
		t.Error("dropped", l, "made", b.pager.Made())
	}
}

// Whatever is made is laid as a page of its kind, whose Next is 0.
func TestP1102WhatIsMadeIsLaidWell(t *testing.T) {
	b := made(t, 90, 2)
	r := b.put(t, tall(t, b), "c", strings.Repeat("c", 500))
	if e := b.pager.Flush(); e != api.OK {
		t.Fatal("Flush:", e)
	}
	kinds := map[int]int{}
	ids, _ := Pages(b.pager, r)
	for _, id := range ids {
		s, _ := b.dev.Read(id)
		x, e := page.Open(id, s)
		if e != api.OK || x.Kind != api.PageOver && x.Next != 0 {
			t.Errorf("page %d: %#v, %d", id, x, e)
		}
		kinds[x.Kind]++
	}
	if kinds[api.PageLeaf] != 5 || kinds[api.PageBranch] != 4 || kinds[api.PageOver] != 3 || len(ids) != 12 {
		t.Error("kinds:", kinds)
	}
}
