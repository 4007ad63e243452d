package tree

import (
	"fmt"
	"maps"
	"slices"
	"strings"
	"testing"

	"arboretum/api"
	"arboretum/branch"
	"arboretum/dev"
	"arboretum/free"
	"arboretum/leaf"
	"arboretum/page"
	"arboretum/pager"
)

// dice is a short rule that strews numbers.
type dice uint64

func (d *dice) roll(n int) int {
	*d = *d*6364136223846793005 + 1442695040888963407
	return int(uint64(*d>>33) % uint64(n))
}

// text tells so many bytes.
func (d *dice) text(n int) string {
	b := make([]byte, n)
	for i := range b {
		b[i] = byte(d.roll(256))
	}
	return string(b)
}

// bed is a device, its free pages, and a pager over all of it.
type bed struct {
	dev   *dev.Dev
	free  *free.Free
	pager *pager.Pager
}

// made tells a bed of so many pages, of which some are free.
func made(t *testing.T, most, pages int, loose ...int) bed {
	t.Helper()
	d, e := dev.New(most)
	if e != api.OK || d.Grow(pages) != api.OK {
		t.Fatal("no device", e)
	}
	f := free.New(loose...)
	p, e := pager.New(d, f, pages, 1)
	if e != api.OK {
		t.Fatal("no pager", e)
	}
	return bed{d, f, p}
}

// next tells a bed of the transaction behind this one, whose pages are those of an elder state then.
func (b bed) next(t *testing.T, txn int) bed {
	t.Helper()
	if e := b.pager.Flush(); e != api.OK {
		t.Fatal("no flush", e)
	}
	p, e := pager.New(b.dev, b.free, b.pager.Pages(), txn)
	if e != api.OK {
		t.Fatal("no pager", e)
	}
	return bed{b.dev, b.free, p}
}

// narrow tells a bed of the next transaction on a device that has room for so many pages more: some of them are free,
// the others stand behind all.
func (b bed) narrow(t *testing.T, loose, behind int) bed {
	t.Helper()
	if e := b.pager.Flush(); e != api.OK {
		t.Fatal("no flush", e)
	}
	pages := b.pager.Pages()
	d, _ := dev.New(pages + loose + behind)
	d.Grow(pages + loose)
	for id := range pages {
		s, e := b.dev.Read(id)
		if e != api.OK || d.Write(id, s) != api.OK {
			t.Fatal("no copy of page", id, e)
		}
	}
	f := free.New()
	for i := range loose {
		f.Back(pages + i)
	}
	p, e := pager.New(d, f, pages+loose, 2)
	if e != api.OK {
		t.Fatal("no pager", e)
	}
	return bed{d, f, p}
}

// state tells all that a call may change, but for spare pages.
func (b bed) state() string {
	return fmt.Sprint(b.pager.Made(), b.pager.Dropped(), b.free.All(), b.free.List(), b.dev.Unsynced())
}

// page makes a page.
func (b bed) page(t *testing.T, kind, next int, body string) int {
	t.Helper()
	id, e := b.pager.Make(api.Page{Kind: kind, Next: next, Body: body})
	if e != api.OK {
		t.Fatal("no page", e)
	}
	return id
}

// lay lays a page on the device.
func (b bed) lay(t *testing.T, id, kind int, body string) {
	t.Helper()
	s, e := page.Seal(id, api.Page{Kind: kind, Body: body})
	if e != api.OK || b.dev.Write(id, s) != api.OK {
		t.Fatal("page", id, "can't be written", e)
	}
}

func leafBody(t *testing.T, l ...api.Item) string {
	t.Helper()
	s, e := leaf.Put(l...)
	if e != api.OK {
		t.Fatal("no leaf", l, e)
	}
	return s
}

func branchBody(t *testing.T, l ...api.Child) string {
	t.Helper()
	s, e := branch.Put(l...)
	if e != api.OK {
		t.Fatal("no branch", l, e)
	}
	return s
}

// leaf makes a leaf of items.
func (b bed) leaf(t *testing.T, l ...api.Item) int {
	t.Helper()
	return b.page(t, api.PageLeaf, 0, leafBody(t, l...))
}

// keys makes a leaf of keys whose values are as they.
func (b bed) keys(t *testing.T, keys ...string) int {
	t.Helper()
	return b.leaf(t, items(keys...)...)
}

// items tells items of keys whose values are as they.
func items(keys ...string) []api.Item {
	var l []api.Item
	for _, k := range keys {
		l = append(l, api.Item{Key: k, Value: k})
	}
	return l
}

// branch makes a branch of keys and pages in turn.
func (b bed) branch(t *testing.T, x ...any) int {
	t.Helper()
	return b.page(t, api.PageBranch, 0, branchBody(t, children(x...)...))
}

// children tells children of keys and pages in turn.
func children(x ...any) []api.Child {
	var l []api.Child
	for i := 0; i < len(x); i += 2 {
		l = append(l, api.Child{Key: x[i].(string), Page: x[i+1].(int)})
	}
	return l
}

// drawn is what a tree has, as another hand than the program's reads it.
type drawn struct {
	text   string // leaves as [a b], branches as (x m:y)
	pages  []int
	values map[string]string
	height int
}

// draw reads a tree that must be right in all.
func (b bed) draw(t *testing.T, root int) drawn {
	t.Helper()
	d := drawn{values: map[string]string{}}
	d.text = b.drawPage(t, &d, root, 1, "", "")
	slices.Sort(d.pages)
	for i, id := range d.pages {
		if i > 0 && d.pages[i-1] == id {
			t.Fatalf("page %d is twice in the tree %d", id, root)
		}
	}
	return d
}

func (b bed) drawPage(t *testing.T, d *drawn, id, level int, from, to string) string {
	t.Helper()
	x, e := b.pager.Read(id)
	if e != api.OK || x.Next != 0 {
		t.Fatalf("page %d: %#v, %d", id, x, e)
	}
	d.pages = append(d.pages, id)
	var words []string
	if x.Kind == 2 {
		l, e := leaf.Get(x.Body)
		if e != api.OK || len(l) == 0 && level > 1 || d.height != 0 && d.height != level {
			t.Fatalf("page %d is no leaf at %d of %d: %v, %d", id, level, d.height, l, e)
		}
		d.height = level
		for _, x := range l {
			if x.Key < from || to != "" && x.Key >= to {
				t.Fatalf("page %d has %q, not %q to %q", id, x.Key, from, to)
			}
			words = append(words, x.Key)
			d.values[x.Key] = x.Value + b.drawChain(t, d, x)
		}
		return "[" + strings.Join(words, " ") + "]"
	}
	l, e := branch.Get(x.Body)
	if e != api.OK || x.Kind != 3 || len(l) == 1 && level == 1 {
		t.Fatalf("page %d is no branch at %d: %v, %d", id, level, l, e)
	}
	for i, c := range l {
		lower, upper, head := from, to, ""
		if i > 0 {
			lower, head = c.Key, c.Key+":"
		}
		if i+1 < len(l) {
			upper = l[i+1].Key
		}
		words = append(words, head+b.drawPage(t, d, c.Page, level+1, lower, upper))
	}
	return "(" + strings.Join(words, " ") + ")"
}

// drawChain reads the value that stands elsewhere.
func (b bed) drawChain(t *testing.T, d *drawn, x api.Item) string {
	t.Helper()
	value := ""
	for id := x.Over; id != 0; {
		y, e := b.pager.Read(id)
		if e != api.OK || y.Kind != 4 || len(value) > x.Size {
			t.Fatalf("page %d: %#v, %d", id, y, e)
		}
		d.pages = append(d.pages, id)
		value += y.Body
		id = y.Next
	}
	if len(value) != x.Size {
		t.Fatalf("%q has %d bytes, not %d", x.Key, len(value), x.Size)
	}
	return value
}

// has holds that a tree is right, has just these keys and values, and that all that reads tells so.
func (b bed) has(t *testing.T, root int, want map[string]string) drawn {
	t.Helper()
	was := b.state()
	d := b.draw(t, root)
	if !maps.Equal(d.values, want) {
		t.Fatalf("the tree %d has %d keys, or others than the %d that it must have: %s", root, len(d.values), len(want), d.text)
	}
	if l, e := Pages(b.pager, root); e != api.OK || !slices.Equal(l, d.pages) {
		t.Errorf("Pages: %v, %d, not %v", l, e, d.pages)
	}
	if n, e := Height(b.pager, root); e != api.OK || n != d.height {
		t.Errorf("Height: %d, %d, not %d", n, e, d.height)
	}
	if n, e := Count(b.pager, root); e != api.OK || n != len(want) {
		t.Errorf("Count: %d, %d, not %d", n, e, len(want))
	}
	for k, v := range want {
		if s, e := Get(b.pager, root, k); e != api.OK || s != v {
			t.Errorf("Get(%q): %d bytes, %d, not %d", k, len(s), e, len(v))
		}
	}
	if is := b.state(); is != was {
		t.Errorf("%s behind what only reads, not %s", is, was)
	}
	return d
}

// looks holds that a tree is as it is drawn.
func (b bed) looks(t *testing.T, root int, want string) drawn {
	t.Helper()
	d := b.draw(t, root)
	if d.text != want {
		t.Errorf("the tree %d: %s, not %s", root, d.text, want)
	}
	return b.has(t, root, d.values)
}

// put holds that a key is given a value; the new root.
func (b bed) put(t *testing.T, root int, key, value string) int {
	t.Helper()
	id, e := Put(b.pager, root, key, value)
	if e != api.OK {
		t.Fatalf("Put(%d, %q, %d bytes): %d", root, key, len(value), e)
	}
	return id
}

// del holds that a key is taken out; the new root.
func (b bed) del(t *testing.T, root int, key string) int {
	t.Helper()
	id, e := Delete(b.pager, root, key)
	if e != api.OK {
		t.Fatalf("Delete(%d, %q): %d", root, key, e)
	}
	return id
}

// unput holds that a Put is refused, and that nothing changes.
func (b bed) unput(t *testing.T, root int, key, value string, want api.Errno) {
	t.Helper()
	was := b.state()
	if id, e := Put(b.pager, root, key, value); e != want || id != 0 {
		t.Errorf("Put(%d, %q, %d bytes): %d, %d, not %d", root, key, len(value), id, e, want)
	}
	if is := b.state(); is != was {
		t.Errorf("Put(%d, %q, %d bytes): %s behind an error, not %s", root, key, len(value), is, was)
	}
}

// undel holds that a Delete is refused, and that nothing changes.
func (b bed) undel(t *testing.T, root int, key string, want api.Errno) {
	t.Helper()
	was := b.state()
	if id, e := Delete(b.pager, root, key); e != want || id != 0 {
		t.Errorf("Delete(%d, %q): %d, %d, not %d", root, key, id, e, want)
	}
	if is := b.state(); is != was {
		t.Errorf("Delete(%d, %q): %s behind an error, not %s", root, key, is, was)
	}
}

// unget holds that a key is not told.
func (b bed) unget(t *testing.T, root int, key string, want api.Errno) {
	t.Helper()
	if s, e := Get(b.pager, root, key); e != want || s != "" {
		t.Errorf("Get(%d, %q): %d bytes, %d, not %d", root, key, len(s), e, want)
	}
}

// onWay holds that whoever goes the way to a key that is there is refused, and that nothing changes.
func (b bed) onWay(t *testing.T, what string, root int, key string, want api.Errno) {
	t.Helper()
	bad := t.Failed()
	b.unget(t, root, key, want)
	b.unput(t, root, key, "x", want)
	b.unput(t, root, key, strings.Repeat("x", api.MaxValue), want)
	b.undel(t, root, key, want)
	if t.Failed() && !bad {
		t.Error("on the way:", what)
	}
}

// inAll holds that whoever walks all of a tree is refused, and that nothing changes.
func (b bed) inAll(t *testing.T, what string, root int, want api.Errno) {
	t.Helper()
	was := b.state()
	if l, e := Pages(b.pager, root); e != want || len(l) != 0 {
		t.Errorf("%s: Pages: %v, %d, not %d", what, l, e, want)
	}
	if n, e := Height(b.pager, root); e != want || n != 0 {
		t.Errorf("%s: Height: %d, %d, not %d", what, n, e, want)
	}
	if n, e := Count(b.pager, root); e != want || n != 0 {
		t.Errorf("%s: Count: %d, %d, not %d", what, n, e, want)
	}
	if e := Drop(b.pager, root); e != want {
		t.Errorf("%s: Drop: %d, not %d", what, e, want)
	}
	if is := b.state(); is != was {
		t.Errorf("%s: %s behind an error, not %s", what, is, was)
	}
}
