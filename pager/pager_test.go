package pager

import (
	"slices"
	"strings"
	"testing"

	"arboretum/api"
	"arboretum/dev"
	"arboretum/free"
	"arboretum/page"
)

const (
	low  = -1 << 63
	high = 1<<63 - 1
)

// dice rolls numbers that are the same in each run.
type dice uint64

func (d *dice) roll(n int) int {
	*d = *d*6364136223846793005 + 1442695040888963407
	return int(uint64(*d>>33) % uint64(n))
}

// content rolls a page that can be.
func (d *dice) content() api.Page {
	b := make([]byte, d.roll(api.Body+1))
	for i := range b {
		b[i] = byte(d.roll(256))
	}
	return api.Page{Kind: 1 + d.roll(255), Next: d.roll(1<<31) * 2, Body: string(b)}
}

func leaf(body string) api.Page { return api.Page{Kind: api.PageLeaf, Body: body} }

// was tells what page id of a file holds from the beginning on.
func was(id int) api.Page {
	return api.Page{Kind: api.PageOver, Next: id + 1, Body: strings.Repeat("o", id)}
}

func sealed(t *testing.T, id int, x api.Page) string {
	t.Helper()
	b, e := page.Seal(id, x)
	if e != api.OK {
		t.Fatal("no bytes of page", id, e)
	}
	return b
}

// file tells a device of so many pages, all synced.
func file(t *testing.T, most, pages int) *dev.Dev {
	t.Helper()
	d, e := dev.New(most)
	if e != api.OK || d.Grow(pages) != api.OK {
		t.Fatal("no device")
	}
	for id := range pages {
		d.Write(id, sealed(t, id, was(id)))
	}
	d.Sync()
	return d
}

// paged tells a pager of the transaction 7 over all pages of a device.
func paged(t *testing.T, d *dev.Dev, f *free.Free) *Pager {
	t.Helper()
	p, e := New(d, f, d.Len(), 7)
	if p == nil || e != api.OK {
		t.Fatal("no pager", e)
	}
	return p
}

// begun tells a device of so many pages, of which some are free, and its pager.
func begun(t *testing.T, most, pages int, loose ...int) (*dev.Dev, *free.Free, *Pager) {
	t.Helper()
	d, f := file(t, most, pages), free.New(loose...)
	return d, f, paged(t, d, f)
}

func makes(t *testing.T, p *Pager, x api.Page, want int) {
	t.Helper()
	if id, e := p.Make(x); id != want || e != api.OK {
		t.Errorf("Make: %d, %d, not %d", id, e, want)
	}
}

func refuses(t *testing.T, p *Pager, x api.Page, want api.Errno) {
	t.Helper()
	if id, e := p.Make(x); id != 0 || e != want {
		t.Errorf("Make: %d, %d, not error %d", id, e, want)
	}
}

func reads(t *testing.T, p *Pager, id int, want api.Page) {
	t.Helper()
	if x, e := p.Read(id); x != want || e != api.OK {
		t.Errorf("Read(%d): %v, %d, not %v", id, x, e, want)
	}
}

func unread(t *testing.T, p *Pager, id int, want api.Errno) {
	t.Helper()
	if x, e := p.Read(id); x != (api.Page{}) || e != want {
		t.Errorf("Read(%d): %v, %d, not error %d", id, x, e, want)
	}
}

func puts(t *testing.T, p *Pager, id int, x api.Page, want api.Errno) {
	t.Helper()
	if e := p.Put(id, x); e != want {
		t.Errorf("Put(%d): %d, not %d", id, e, want)
	}
}

func drops(t *testing.T, p *Pager, id int, want api.Errno) {
	t.Helper()
	if e := p.Drop(id); e != want {
		t.Errorf("Drop(%d): %d, not %d", id, e, want)
	}
}

func flushes(t *testing.T, p *Pager, want api.Errno) {
	t.Helper()
	if e := p.Flush(); e != want {
		t.Errorf("Flush: %d, not %d", e, want)
	}
}

// lies looks at a page as the device has it.
func lies(t *testing.T, d *dev.Dev, id int, want api.Page) {
	t.Helper()
	b, e := d.Read(id)
	if e != api.OK || b != sealed(t, id, want) {
		t.Errorf("page %d of the device: %q, %d, not %v", id, b, e, want)
	}
}

// holds looks at what a pager tells of itself.
func holds(t *testing.T, p *Pager, pages int, made, dropped, spare []int) {
	t.Helper()
	if p.Pages() != pages {
		t.Errorf("%d pages, not %d", p.Pages(), pages)
	}
	for i, l := range [][]int{p.Made(), p.Dropped(), p.Spare()} {
		if want := [][]int{made, dropped, spare}[i]; !slices.Equal(l, want) {
			t.Errorf("%s %v, not %v", []string{"made", "dropped", "spare"}[i], l, want)
		}
	}
	for id := range pages + 3 {
		if p.Own(id) != slices.Contains(made, id) {
			t.Errorf("Own(%d): %v", id, p.Own(id))
		}
	}
}

// lists looks at what is free and what waits.
func lists(t *testing.T, f *free.Free, loose, all []int) {
	t.Helper()
	if !slices.Equal(f.List(), loose) || !slices.Equal(f.All(), all) {
		t.Errorf("free %v of %v, not %v of %v", f.List(), f.All(), loose, all)
	}
}

func TestP701Example(t *testing.T) {
	_, _, p := begun(t, 9, 2)
	makes(t, p, leaf("x"), 2)
	holds(t, p, 3, []int{2}, nil, nil)
	reads(t, p, 2, leaf("x"))
	drops(t, p, 2, api.OK)
	makes(t, p, leaf("y"), 2)
	reads(t, p, 2, leaf("y"))
}

func TestP701New(t *testing.T) {
	d := file(t, 9, 5)
	for _, pages := range []int{2, 3, 5} {
		for _, txn := range []int{1, 2, high} {
			p, e := New(d, &free.Free{}, pages, txn)
			if p == nil || e != api.OK {
				t.Fatalf("New(%d, %d): %d", pages, txn, e)
			}
			holds(t, p, pages, nil, nil, nil)
		}
	}
	d.Crash()
	holds(t, paged(t, d, free.New(4, 2)), 5, nil, nil, nil) // no page is asked for yet
}

func TestP701NewRefuses(t *testing.T) {
	d := file(t, 9, 5)
	refused := func(d *dev.Dev, f *free.Free, pages, txn int) {
		t.Helper()
		if p, e := New(d, f, pages, txn); p != nil || e != api.ErrArg {
			t.Errorf("New(%d, %d): %d", pages, txn, e)
		}
	}
	refused(nil, free.New(), 2, 1)
	refused(&dev.Dev{}, free.New(), 2, 1)
	refused(d, nil, 2, 1)
	for _, pages := range []int{low, -2, 0, 1, 6, 9, high} {
		refused(d, free.New(), pages, 1)
	}
	for _, txn := range []int{0, -1, low} {
		refused(d, free.New(), 5, txn)
	}
}

func TestP701NewLooksAtAllFreePages(t *testing.T) {
	d := file(t, 9, 5)
	for _, bad := range []int{low, -1, 0, 1, 4, 5, high} {
		ways := []*free.Free{free.New(bad), free.New(2, bad, 3), free.New(2, 3), free.New()}
		ways[2].Give(9, bad)
		ways[3].Give(2, 3, bad, 2)
		for i, f := range ways {
			all := f.All()
			if p, e := New(d, f, 4, 1); p != nil || e != api.ErrArg || !slices.Equal(f.All(), all) {
				t.Errorf("%d free, way %d: %d, %v", bad, i, e, f.All())
			}
		}
	}
	f := free.New(3, 2)
	f.Give(9, 2, 3)
	if p, e := New(d, f, 4, 1); p == nil || e != api.OK {
		t.Errorf("free pages within: %d", e)
	}
	lists(t, f, []int{2, 3}, []int{2, 2, 3, 3})
}

func TestP701Read(t *testing.T) {
	d, _, p := begun(t, 9, 6, 5)
	for _, id := range []int{low, -1, 0, 1, 6, 7, high} {
		unread(t, p, id, api.ErrIndex)
	}
	for id := 2; id < 6; id++ { // page 5, too: what is free is a page still
		reads(t, p, id, was(id))
	}
	d.Write(3, sealed(t, 3, leaf("new")))
	reads(t, p, 3, leaf("new"))
	d.Crash()
	unread(t, p, 3, api.ErrOff)
	unread(t, p, 6, api.ErrIndex)
	d.Restore()
	reads(t, p, 3, was(3))
}

func TestP701ReadBelowPagesAlone(t *testing.T) {
	d := file(t, 9, 6)
	p, e := New(d, free.New(), 4, 1)
	if e != api.OK {
		t.Fatal(e)
	}
	reads(t, p, 3, was(3))
	unread(t, p, 4, api.ErrIndex)
	makes(t, p, leaf("x"), 4)
	reads(t, p, 4, leaf("x"))
	unread(t, p, 5, api.ErrIndex)
	if d.Len() != 6 {
		t.Errorf("%d pages of the device", d.Len())
	}
}

func TestP701ReadOfSpoiltPages(t *testing.T) {
	d, _, p := begun(t, 9, 6)
	b := sealed(t, 2, was(2))
	d.Write(2, b[:40]+"!"+b[41:])
	d.Write(3, sealed(t, 2, was(2)))
	d.Write(4, strings.Repeat("\x00", api.PageSize))
	for id, want := range map[int]api.Errno{2: api.ErrSum, 3: api.ErrForm, 4: api.ErrSum} {
		unread(t, p, id, want)
		drops(t, p, id, want)
	}
	holds(t, p, 6, nil, nil, nil)
	reads(t, p, 5, was(5))
}

func TestP701ReadOfWhatWasDropped(t *testing.T) {
	_, _, p := begun(t, 9, 5, 3)
	makes(t, p, leaf("a"), 3)
	makes(t, p, leaf("b"), 5)
	for _, id := range []int{2, 3, 5} {
		drops(t, p, id, api.OK)
		unread(t, p, id, api.ErrNone)
	}
	makes(t, p, leaf("c"), 5)
	reads(t, p, 5, leaf("c"))
	unread(t, p, 3, api.ErrNone)
	makes(t, p, leaf("d"), 3)
	reads(t, p, 3, leaf("d"))
	unread(t, p, 2, api.ErrNone)
	flushes(t, p, api.OK)
	reads(t, p, 2, was(2)) // what was dropped is a page still, and this is another transaction's look
	reads(t, p, 3, leaf("d"))
}

func TestP701ReadOfWhatWasMadeNeedsNoPower(t *testing.T) {
	d, _, p := begun(t, 9, 3, 2)
	x := api.Page{Kind: 255, Next: 1<<32 - 1, Body: strings.Repeat("\xff\x00", 120)}
	makes(t, p, x, 2)
	makes(t, p, api.Page{Kind: 1}, 3)
	d.Crash()
	reads(t, p, 2, x)
	reads(t, p, 3, api.Page{Kind: 1})
	drops(t, p, 3, api.OK)
	unread(t, p, 3, api.ErrNone)
}

func TestP702MakeTakesTheLeast(t *testing.T) {
	d, f, p := begun(t, 20, 8, 6, 3, 5)
	f.Give(1, 4) // waits: is not taken
	for i, want := range []int{3, 5, 6, 8, 9, 10, 11} {
		makes(t, p, leaf("x"), want)
		reads(t, p, want, leaf("x"))
		if n := max(8, want+1); p.Pages() != n || d.Len() != n {
			t.Errorf("%d pages, %d of the device behind Make %d", p.Pages(), d.Len(), i)
		}
	}
	for _, id := range []int{10, 5, 8, 3} {
		drops(t, p, id, api.OK)
	}
	holds(t, p, 12, []int{6, 9, 11}, nil, []int{8, 10})
	lists(t, f, []int{3, 5}, []int{3, 4, 5})
	for _, want := range []int{8, 10, 3, 5, 12} { // spare ones first, though others are less
		makes(t, p, leaf("y"), want)
	}
	holds(t, p, 13, []int{3, 5, 6, 8, 9, 10, 11, 12}, nil, nil)
	lists(t, f, nil, []int{4})
}

func TestP702MakeInMemoryAlone(t *testing.T) {
	d, _, p := begun(t, 9, 4, 3)
	makes(t, p, leaf("x"), 3)
	makes(t, p, leaf("y"), 4)
	puts(t, p, 3, leaf("z"), api.OK)
	lies(t, d, 3, was(3))
	if b, _ := d.Read(4); d.Unsynced() != 0 || b != strings.Repeat("\x00", api.PageSize) {
		t.Errorf("%d writes, %q", d.Unsynced(), b)
	}
}

// bad are pages that Seal refuses, and how.
func bad() map[api.Page]api.Errno {
	long := strings.Repeat("x", api.Body+1)
	return map[api.Page]api.Errno{
		{}:                            api.ErrArg,
		{Kind: -1}:                    api.ErrArg,
		{Kind: 256}:                   api.ErrArg,
		{Kind: 2, Next: -1}:           api.ErrArg,
		{Kind: 2, Next: 1 << 32}:      api.ErrArg,
		{Kind: 0, Body: long}:         api.ErrArg,
		{Kind: low, Next: high}:       api.ErrArg,
		{Kind: 2, Body: long}:         api.ErrLong,
		{Kind: 255, Body: long + "x"}: api.ErrLong,
	}
}

func TestP702MakeRefuses(t *testing.T) {
	for x, want := range bad() {
		d, f, p := begun(t, 7, 4)
		refuses(t, p, x, want) // a new one
		if d.Len() != 4 {
			t.Errorf("%d pages of the device", d.Len())
		}
		holds(t, p, 4, nil, nil, nil)
		f.Back(3, 2)
		refuses(t, p, x, want) // a free one
		lists(t, f, []int{2, 3}, []int{2, 3})
		for id := 2; id < 6; id++ {
			makes(t, p, leaf("x"), id)
		}
		drops(t, p, 5, api.OK)
		drops(t, p, 4, api.OK)
		refuses(t, p, x, want) // a spare one
		holds(t, p, 6, []int{2, 3}, nil, []int{4, 5})
		unread(t, p, 4, api.ErrNone)
	}
}

func TestP702MakeWithoutRoom(t *testing.T) {
	d, _, p := begun(t, 4, 3)
	makes(t, p, leaf("x"), 3)
	for x, want := range bad() {
		refuses(t, p, x, want) // ahead of the device's error
	}
	for range 2 {
		refuses(t, p, leaf("y"), api.ErrFull)
		holds(t, p, 4, []int{3}, nil, nil)
		unread(t, p, 4, api.ErrIndex)
	}
	drops(t, p, 3, api.OK)
	makes(t, p, leaf("z"), 3)
	refuses(t, p, leaf("y"), api.ErrFull)
	d.Crash()
	refuses(t, p, leaf("y"), api.ErrOff)
	reads(t, p, 3, leaf("z"))
}

func TestP702MakeWithoutPower(t *testing.T) {
	d := file(t, 9, 6)
	p, _ := New(d, free.New(3), 5, 1)
	d.Fuse(0)
	makes(t, p, leaf("x"), 3)
	makes(t, p, leaf("y"), 5) // the device has it already: no Grow
	if !d.On() {
		t.Error("an operation, though none was needed")
	}
	refuses(t, p, leaf("z"), api.ErrOff)
	refuses(t, p, leaf("z"), api.ErrOff)
	holds(t, p, 6, []int{3, 5}, nil, nil)
	d.Restore()
	makes(t, p, leaf("z"), 6)
	if d.Len() != 7 {
		t.Errorf("%d pages of the device", d.Len())
	}
}

// One Grow a new page, of one page.
func TestP702MakeGrowsByOne(t *testing.T) {
	d, _, p := begun(t, 9, 3)
	d.Fuse(3)
	for id := 3; id < 6; id++ {
		makes(t, p, leaf("x"), id)
		if d.Len() != id+1 {
			t.Errorf("%d pages of the device", d.Len())
		}
	}
	refuses(t, p, leaf("x"), api.ErrOff)
}

func TestP702Put(t *testing.T) {
	d, _, p := begun(t, 9, 5, 3)
	makes(t, p, leaf("x"), 3)
	makes(t, p, leaf("y"), 5)
	x := api.Page{Kind: 9, Next: 77, Body: "later"}
	puts(t, p, 3, x, api.OK)
	reads(t, p, 3, x)
	reads(t, p, 5, leaf("y"))
	for y, want := range bad() {
		puts(t, p, 3, y, want)
		puts(t, p, 4, y, api.ErrState) // ahead of Seal's errors
		reads(t, p, 3, x)
	}
	drops(t, p, 5, api.OK)
	drops(t, p, 2, api.OK)
	for _, id := range []int{low, -1, 0, 1, 2, 4, 5, 6, high} {
		puts(t, p, id, leaf("z"), api.ErrState)
	}
	holds(t, p, 6, []int{3}, []int{2}, []int{5})
	reads(t, p, 4, was(4))
	flushes(t, p, api.OK)
	lies(t, d, 3, x)
	puts(t, p, 3, leaf("z"), api.ErrState)
	makes(t, p, leaf("m"), 5)
	p.Undo()
	puts(t, p, 5, leaf("z"), api.ErrState)
}

func TestP702Drop(t *testing.T) {
	d, f, p := begun(t, 9, 6, 3)
	for _, id := range []int{low, -1, 0, 1, 6, high} {
		drops(t, p, id, api.ErrIndex)
	}
	makes(t, p, leaf("x"), 3)
	makes(t, p, leaf("y"), 6)
	for _, id := range []int{5, 3, 6, 2} {
		drops(t, p, id, api.OK)
		drops(t, p, id, api.ErrNone)
	}
	holds(t, p, 7, nil, []int{2, 5}, []int{6})
	lists(t, f, []int{3}, []int{3}) // 2 and 5 do not wait ahead of a Flush
	d.Crash()
	drops(t, p, 4, api.ErrOff)
	drops(t, p, 2, api.ErrNone)
	d.Restore()
	holds(t, p, 7, nil, []int{2, 5}, []int{6})
}

// What was there is never taken anew by the one that dropped it.
func TestP702WhatWasDroppedIsNotTaken(t *testing.T) {
	_, _, p := begun(t, 9, 4)
	drops(t, p, 2, api.OK)
	drops(t, p, 3, api.OK)
	makes(t, p, leaf("x"), 4)
	drops(t, p, 4, api.OK)
	makes(t, p, leaf("y"), 4)
	makes(t, p, leaf("z"), 5)
	holds(t, p, 6, []int{4, 5}, []int{2, 3}, nil)
}

func TestP702WhereADroppedOneGoesBehindAFlush(t *testing.T) {
	_, f, p := begun(t, 9, 3)
	makes(t, p, leaf("x"), 3)
	flushes(t, p, api.OK)
	makes(t, p, leaf("y"), 4)
	drops(t, p, 3, api.OK) // an elder one now
	drops(t, p, 4, api.OK)
	holds(t, p, 5, nil, []int{3}, []int{4})
	flushes(t, p, api.OK)
	lists(t, f, []int{4}, []int{3, 4})
	makes(t, p, leaf("z"), 4)
	drops(t, p, 4, api.OK) // below the pages that there are since that Flush
	holds(t, p, 5, nil, nil, nil)
	lists(t, f, []int{4}, []int{3, 4})
	unread(t, p, 4, api.ErrNone)
}

func TestP702Own(t *testing.T) {
	_, _, p := begun(t, 9, 4, 2)
	for _, id := range []int{low, -1, 0, 1, 2, 3, 4, high} {
		if p.Own(id) {
			t.Errorf("Own(%d) of none", id)
		}
	}
	makes(t, p, leaf("x"), 2)
	makes(t, p, leaf("x"), 4)
	drops(t, p, 3, api.OK)
	holds(t, p, 5, []int{2, 4}, []int{3}, nil)
	p.Undo()
	holds(t, p, 4, nil, nil, nil)
}

func TestP703Flush(t *testing.T) {
	d, f, p := begun(t, 20, 7, 5, 3)
	for i, id := range []int{3, 5, 7, 8, 9} {
		makes(t, p, leaf(strings.Repeat("m", i)), id)
	}
	puts(t, p, 9, leaf("put"), api.OK)
	drops(t, p, 8, api.OK)
	drops(t, p, 3, api.OK)
	drops(t, p, 4, api.OK)
	drops(t, p, 2, api.OK)
	flushes(t, p, api.OK)
	if d.Unsynced() != 3 {
		t.Errorf("%d writes", d.Unsynced())
	}
	lies(t, d, 5, leaf("m"))
	lies(t, d, 7, leaf("mm"))
	lies(t, d, 9, leaf("put"))
	for _, id := range []int{2, 3, 4, 6} {
		lies(t, d, id, was(id))
	}
	holds(t, p, 10, nil, nil, nil)
	lists(t, f, []int{3, 8}, []int{2, 3, 4, 8})
	reads(t, p, 5, leaf("m"))
	unread(t, p, 8, api.ErrSum) // nobody wrote it ever
	flushes(t, p, api.OK)
	if d.Unsynced() != 3 {
		t.Errorf("%d writes behind a second Flush", d.Unsynced())
	}
	lists(t, f, []int{3, 8}, []int{2, 3, 4, 8})
}

func TestP703FlushWithoutWrites(t *testing.T) {
	d, f, p := begun(t, 9, 4)
	drops(t, p, 3, api.OK)
	d.Crash()
	flushes(t, p, api.OK) // nothing is asked of the device
	lists(t, f, nil, []int{3})
	if d.Unsynced() != 0 {
		t.Errorf("%d writes", d.Unsynced())
	}
}

// The dropped pages wait with the number of the transaction.
func TestP703FlushGivesByItsTransaction(t *testing.T) {
	for txn := 1; txn < 9; txn++ {
		d, f := file(t, 9, 4), free.New()
		p, _ := New(d, f, 4, txn)
		f.Pin(5)
		drops(t, p, 2, api.OK)
		flushes(t, p, api.OK)
		want := 0
		if txn <= 5 {
			want = 1
		}
		if n := f.Release(); n != want {
			t.Errorf("%d pages of transaction %d are free, not %d", n, txn, want)
		}
	}
}

// Rising: where the power fails at a write, those of lesser pages are there, and its own.
func TestP703FlushWhereThePowerFails(t *testing.T) {
	ids := []int{3, 5, 7, 8, 9}
	for fuse := range ids {
		d, f, p := begun(t, 20, 7, 5, 3)
		for _, id := range ids {
			makes(t, p, leaf("m"), id)
		}
		makes(t, p, leaf("s"), 10)
		drops(t, p, 10, api.OK)
		drops(t, p, 6, api.OK)
		d.Fuse(fuse)
		flushes(t, p, api.ErrOff)
		holds(t, p, 11, ids, []int{6}, []int{10})
		lists(t, f, nil, nil)
		d.Restore()
		if d.Unsynced() != fuse+1 {
			t.Errorf("%d writes with fuse %d", d.Unsynced(), fuse)
		}
		for i, id := range ids {
			b, _ := d.Read(id)
			if (b == sealed(t, id, leaf("m"))) != (i <= fuse) {
				t.Errorf("page %d with fuse %d", id, fuse)
			}
		}
		d.Crash()
		d.Restore()
		flushes(t, p, api.OK)
		holds(t, p, 11, nil, nil, nil)
		lists(t, f, []int{10}, []int{6, 10})
		for _, id := range ids {
			lies(t, d, id, leaf("m"))
		}
	}
}

func TestP703UndoBehindAFlushThatFailed(t *testing.T) {
	d, f, p := begun(t, 9, 4, 2)
	makes(t, p, leaf("x"), 2)
	makes(t, p, leaf("y"), 4)
	drops(t, p, 3, api.OK)
	d.Crash()
	flushes(t, p, api.ErrOff)
	p.Undo()
	holds(t, p, 4, nil, nil, nil)
	lists(t, f, []int{2}, []int{2})
	d.Restore()
	reads(t, p, 2, was(2))
	reads(t, p, 3, was(3))
}

func TestP703Undo(t *testing.T) {
	d, f, p := begun(t, 20, 7, 5, 3, 6)
	for _, id := range []int{3, 5, 6, 7, 8, 9} {
		makes(t, p, leaf("x"), id)
	}
	for _, id := range []int{8, 5, 4, 2} {
		drops(t, p, id, api.OK)
	}
	holds(t, p, 10, []int{3, 6, 7, 9}, []int{2, 4}, []int{8})
	p.Undo()
	holds(t, p, 7, nil, nil, nil)
	lists(t, f, []int{3, 5, 6}, []int{3, 5, 6})
	for id := 2; id < 7; id++ {
		reads(t, p, id, was(id))
	}
	unread(t, p, 7, api.ErrIndex)
	if d.Unsynced() != 0 || d.Len() != 10 {
		t.Errorf("%d writes, %d pages of the device", d.Unsynced(), d.Len())
	}
	p.Undo()
	lists(t, f, []int{3, 5, 6}, []int{3, 5, 6})
	for _, id := range []int{3, 5, 6, 7} {
		makes(t, p, leaf("y"), id)
	}
	drops(t, p, 4, api.OK)
	holds(t, p, 8, []int{3, 5, 6, 7}, []int{4}, nil)
}

// Behind a Flush, Undo goes back to it, not to New.
func TestP703UndoBehindAFlush(t *testing.T) {
	_, f, p := begun(t, 20, 4, 2)
	makes(t, p, leaf("a"), 2)
	makes(t, p, leaf("b"), 4)
	drops(t, p, 3, api.OK)
	flushes(t, p, api.OK)
	makes(t, p, leaf("c"), 5)
	drops(t, p, 4, api.OK)
	drops(t, p, 2, api.OK)
	p.Undo()
	holds(t, p, 5, nil, nil, nil)
	lists(t, f, nil, []int{3})
	reads(t, p, 2, leaf("a"))
	reads(t, p, 4, leaf("b"))
	if f.Release() != 1 {
		t.Error("page 3 does not wait")
	}
	makes(t, p, leaf("d"), 3)
	p.Undo()
	lists(t, f, []int{3}, []int{3})
}

// The lists that are told are the caller's own.
func TestP703ItsOwnLists(t *testing.T) {
	_, _, p := begun(t, 20, 5)
	for id := 5; id < 9; id++ {
		makes(t, p, leaf("x"), id)
	}
	for _, id := range []int{2, 3, 7, 8} {
		drops(t, p, id, api.OK)
	}
	for _, l := range [][]int{p.Made(), p.Dropped(), p.Spare()} {
		l[0], l[1] = 99, -1
		_ = append(l[:1], 98)
	}
	holds(t, p, 9, []int{5, 6}, []int{2, 3}, []int{7, 8})
}

func TestP705None(t *testing.T) {
	for _, p := range []*Pager{nil, {}} {
		p.Undo()
		unread(t, p, 2, api.ErrArg)
		unread(t, p, -1, api.ErrArg)
		refuses(t, p, leaf("x"), api.ErrArg)
		refuses(t, p, leaf(strings.Repeat("x", 300)), api.ErrArg)
		puts(t, p, 2, leaf("x"), api.ErrArg)
		drops(t, p, 2, api.ErrArg)
		flushes(t, p, api.ErrArg)
		p.Undo()
		holds(t, p, 0, nil, nil, nil)
	}
}
