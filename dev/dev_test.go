package dev

import (
	"strings"
	"testing"

	"arboretum/api"
)

const (
	least    = -1 << 63
	greatest = 1<<63 - 1
)

// made makes a device with n pages, of page i all letters 'a' + i, synced.
func made(t *testing.T, most, n int) *Dev {
	t.Helper()
	d, e := New(most)
	if e != api.OK || d.Grow(n) != api.OK {
		t.Fatal("not made", e)
	}
	for i := range n {
		wrote(t, d, i, string([]byte{byte('a' + i)}), api.OK)
	}
	synced(t, d)
	return d
}

func full(c string) string { return strings.Repeat(c, api.PageSize) }

func wrote(t *testing.T, d *Dev, page int, c string, want api.Errno) {
	t.Helper()
	if e := d.Write(page, full(c)); e != want {
		t.Errorf("Write(%d, %q): %d, not %d", page, c, e, want)
	}
}

func synced(t *testing.T, d *Dev) {
	t.Helper()
	if e := d.Sync(); e != api.OK {
		t.Errorf("Sync: %d", e)
	}
}

// holds looks at pages: of each, its sectors' letters.
func holds(t *testing.T, d *Dev, want ...string) {
	t.Helper()
	if d.Len() != len(want) {
		t.Errorf("%d pages, not %d", d.Len(), len(want))
	}
	for i, w := range want {
		b, e := d.Read(i)
		if e != api.OK || len(b) != api.PageSize {
			t.Fatalf("page %d: %d bytes, %d", i, len(b), e)
		}
		got := ""
		for s := 0; s < api.PageSize; s += api.Sector {
			if b[s:s+api.Sector] != strings.Repeat(b[s:s+1], api.Sector) {
				t.Fatalf("page %d, sector %d is mixed", i, s/api.Sector)
			}
			got += b[s : s+1]
		}
		if len(w) == 1 {
			w = strings.Repeat(w, 8)
		}
		if got != w {
			t.Errorf("page %d: %q, not %q", i, got, w)
		}
	}
}

func TestP201New(t *testing.T) {
	for _, most := range []int{0, -1, least, api.MaxPages + 1, greatest} {
		if d, e := New(most); d != nil || e != api.ErrArg {
			t.Errorf("New(%d): %d", most, e)
		}
	}
	for _, most := range []int{1, 2, api.MaxPages} {
		d, e := New(most)
		if e != api.OK || !d.On() || d.Len() != 0 || d.Unsynced() != 0 {
			t.Errorf("New(%d): %d", most, e)
		}
		for range 100 { // it has no fuse
			synced(t, d)
		}
	}
	a, _ := New(1)
	b, _ := New(1)
	a.Grow(1)
	a.Crash()
	if !b.On() || b.Len() != 0 {
		t.Error("two devices are one")
	}
}

// operations are of each kind, good and bad; none changes what another answers.
func operations() []func(d *Dev) api.Errno {
	return []func(d *Dev) api.Errno{
		func(d *Dev) api.Errno { return d.Grow(2) },
		func(d *Dev) api.Errno { return d.Grow(1) },
		func(d *Dev) api.Errno { return d.Grow(99) },
		func(d *Dev) api.Errno { return d.Write(0, full("x")) },
		func(d *Dev) api.Errno { return d.Write(2, full("x")) },
		func(d *Dev) api.Errno { return d.Write(0, "x") },
		func(d *Dev) api.Errno { return d.Sync() },
	}
}

func TestP201FuseCounts(t *testing.T) {
	want := []api.Errno{api.OK, api.ErrArg, api.ErrFull, api.OK, api.ErrIndex, api.ErrArg, api.OK}
	for n := range 2 * len(want) {
		d := made(t, 9, 2)
		d.Fuse(n)
		for i := range 3 * len(want) {
			w := want[i%len(want)]
			if i >= n {
				w = api.ErrOff
			}
			d.Read(0)
			d.Len()
			d.Unsynced()
			d.Twin()
			if e := operations()[i%len(want)](d); e != w || d.On() != (i < n) {
				t.Errorf("Fuse(%d): operation %d answers %d, not %d", n, i, e, w)
			}
		}
		d.Restore()
		for i, w := range want { // a fuse that went off is gone
			if e := operations()[i](d); e != w || !d.On() {
				t.Errorf("Fuse(%d): behind it operation %d answers %d, not %d", n, i, e, w)
			}
		}
	}
}

func TestP201FuseSet(t *testing.T) {
	d := made(t, 9, 2)
	for _, n := range []int{-1, least} {
		d.Fuse(0)
		d.Fuse(n)
		for range 9 {
			synced(t, d)
		}
	}
	d.Fuse(greatest)
	synced(t, d)
	d.Fuse(2)
	synced(t, d)
	d.Fuse(2)
	synced(t, d)
	synced(t, d)
	if e := d.Sync(); e != api.ErrOff || d.On() {
		t.Error("a second fuse takes the place of the first", e)
	}
	d.Fuse(1) // without power
	if e := d.Sync(); e != api.ErrOff {
		t.Error("no power", e)
	}
	d.Restore()
	d.Restore()
	synced(t, d)
	if e := d.Sync(); e != api.ErrOff || d.On() {
		t.Error("a fuse from the time without power", e)
	}
}

func TestP201FuseDone(t *testing.T) {
	d := made(t, 9, 2)
	d.Fuse(0)
	if e := d.Grow(5); e != api.ErrOff {
		t.Error("Grow", e)
	}
	d.Restore()
	holds(t, d, "a", "b")
	wrote(t, d, 0, "x", api.OK)
	d.Fuse(0)
	if e := d.Sync(); e != api.ErrOff || d.Unsynced() != 1 {
		t.Error("Sync", e, d.Unsynced())
	}
	d.Restore()
	d.Fuse(0)
	wrote(t, d, 1, "y", api.ErrOff)
	if d.On() || d.Unsynced() != 2 {
		t.Error("Write", d.On(), d.Unsynced())
	}
	d.Restore()
	holds(t, d, "x", "y")
	for _, bad := range []struct {
		page int
		data string
	}{{2, full("z")}, {-1, full("z")}, {0, "z"}, {0, full("z") + "z"}} {
		d.Fuse(0)
		if e := d.Write(bad.page, bad.data); e != api.ErrOff || d.On() || d.Unsynced() != 2 {
			t.Error("a Write that would not have been done", e, d.Unsynced())
		}
		d.Restore()
	}
	holds(t, d, "x", "y")
	d.Crash(0, 2)
	d.Restore()
	holds(t, d, "a", "bybbbbbb")
}

func TestP201Off(t *testing.T) {
	d := made(t, 9, 2)
	wrote(t, d, 0, "x", api.OK)
	d.Fuse(0)
	d.Sync()
	for range 2 {
		for i, f := range operations() {
			if e := f(d); e != api.ErrOff {
				t.Errorf("operation %d: %d", i, e)
			}
		}
		for _, page := range []int{0, 1, 2, -1} {
			if b, e := d.Read(page); b != "" || e != api.ErrOff {
				t.Errorf("Read(%d): %d bytes, %d", page, len(b), e)
			}
		}
		if d.On() || d.Len() != 2 || d.Unsynced() != 1 {
			t.Error(d.On(), d.Len(), d.Unsynced())
		}
	}
	d.Restore()
	holds(t, d, "x", "b")
}

func TestP202Grow(t *testing.T) {
	d, _ := New(5)
	for _, c := range []struct {
		n, len int
		want   api.Errno
	}{
		{-1, 0, api.ErrArg}, {least, 0, api.ErrArg}, {0, 0, api.OK}, {6, 0, api.ErrFull}, {greatest, 0, api.ErrFull},
		{2, 2, api.OK}, {2, 2, api.OK}, {1, 2, api.ErrArg}, {6, 2, api.ErrFull}, {3, 3, api.OK}, {5, 5, api.OK}, {5, 5, api.OK}, {4, 5, api.ErrArg}, {6, 5, api.ErrFull},
	} {
		if e := d.Grow(c.n); e != c.want || d.Len() != c.len || d.Unsynced() != 0 {
			t.Errorf("Grow(%d): %d, %d pages", c.n, e, d.Len())
		}
	}
	holds(t, d, "\x00", "\x00", "\x00", "\x00", "\x00")
	most, _ := New(api.MaxPages)
	if e := most.Grow(api.MaxPages); e != api.OK || most.Len() != api.MaxPages {
		t.Error("all pages", e)
	}
	if e := most.Grow(api.MaxPages + 1); e != api.ErrFull {
		t.Error("more pages", e)
	}
}

func TestP202GrowForGood(t *testing.T) {
	d := made(t, 9, 1)
	wrote(t, d, 0, "x", api.OK)
	if d.Grow(3) != api.OK {
		t.Error("Grow")
	}
	holds(t, d, "x", "\x00", "\x00")
	wrote(t, d, 2, "z", api.OK)
	d.Crash()
	d.Restore()
	holds(t, d, "a", "\x00", "\x00")
}

func TestP202Write(t *testing.T) {
	d := made(t, 9, 3)
	for _, c := range []struct {
		page, long int
		want       api.Errno
	}{
		{3, 256, api.ErrIndex}, {-1, 256, api.ErrIndex}, {least, 256, api.ErrIndex}, {greatest, 256, api.ErrIndex},
		{3, 255, api.ErrIndex}, // no page's length too, but ErrIndex is named first
		{0, 0, api.ErrArg}, {0, 255, api.ErrArg}, {2, 257, api.ErrArg}, {1, 512, api.ErrArg},
	} {
		if e := d.Write(c.page, strings.Repeat("x", c.long)); e != c.want || d.Unsynced() != 0 {
			t.Errorf("Write(%d) of %d bytes: %d", c.page, c.long, e)
		}
	}
	holds(t, d, "a", "b", "c")
	wrote(t, d, 0, "x", api.OK)
	holds(t, d, "x", "b", "c")
	wrote(t, d, 2, "y", api.OK)
	wrote(t, d, 2, "z", api.OK)
	holds(t, d, "x", "b", "z")
	if d.Unsynced() != 3 {
		t.Error(d.Unsynced())
	}
	every := ""
	for i := range api.PageSize {
		every += string([]byte{byte(i)})
	}
	if e := d.Write(1, every); e != api.OK {
		t.Error(e)
	}
	if b, e := d.Read(1); b != every || e != api.OK {
		t.Error("not the bytes that were written")
	}
}

func TestP202Sync(t *testing.T) {
	d := made(t, 9, 3)
	for _, n := range []int{0, 1, 15, 16, 17, 31, 32, 33, 100} {
		for i := range n {
			wrote(t, d, i%2, string([]byte{byte(i)}), api.OK)
			if d.Unsynced() != i+1 {
				t.Errorf("%d unsynced behind %d", d.Unsynced(), i+1)
			}
		}
		synced(t, d)
		if d.Unsynced() != 0 {
			t.Error(d.Unsynced())
		}
	}
	holds(t, d, "b", "c", "c")
	d.Crash(255, 255)
	d.Restore()
	holds(t, d, "b", "c", "c")
}

func TestP202Read(t *testing.T) {
	d := made(t, 9, 2)
	for _, page := range []int{-1, 2, 8, least, greatest} {
		if b, e := d.Read(page); b != "" || e != api.ErrIndex {
			t.Errorf("Read(%d): %d bytes, %d", page, len(b), e)
		}
	}
	holds(t, d, "a", "b")
	empty, _ := New(9)
	if b, e := empty.Read(0); b != "" || e != api.ErrIndex {
		t.Error("no pages", e)
	}
}

func TestP203Crash(t *testing.T) {
	d := made(t, 9, 1)
	wrote(t, d, 0, "x", api.OK)
	d.Fuse(0)
	d.Crash(1)
	if d.On() || d.Len() != 1 || d.Unsynced() != 0 {
		t.Error(d.On(), d.Len(), d.Unsynced())
	}
	d.Restore()
	if !d.On() {
		t.Error("no power")
	}
	holds(t, d, "xaaaaaaa")
	synced(t, d) // the fuse is gone
	d.Fuse(0)
	d.Sync()
	d.Crash() // without power too
	d.Fuse(0)
	d.Crash()
	d.Restore()
	synced(t, d)
	holds(t, d, "xaaaaaaa")
}

func TestP203Example(t *testing.T) {
	d, _ := New(1)
	if d.Grow(1) != api.OK || d.Write(0, full("a")) != api.OK || d.Sync() != api.OK || d.Write(0, full("b")) != api.OK {
		t.Error("not made")
	}
	d.Crash(1)
	d.Restore()
	holds(t, d, "baaaaaaa")
}

func TestP203Keep(t *testing.T) {
	for _, c := range []struct {
		keep int
		want string
	}{
		{0, "aaaaaaaa"}, {1, "xaaaaaaa"}, {2, "axaaaaaa"}, {4, "aaxaaaaa"}, {8, "aaaxaaaa"}, {16, "aaaaxaaa"}, {32, "aaaaaxaa"}, {64, "aaaaaaxa"}, {128, "aaaaaaax"},
		{254, "axxxxxxx"}, {255, "xxxxxxxx"}, {256, "aaaaaaaa"}, {257, "xaaaaaaa"}, {511, "xxxxxxxx"}, {512 + 6, "axxaaaaa"},
		{-1, "xxxxxxxx"}, {-255, "xaaaaaaa"}, {-256, "aaaaaaaa"}, {-2, "axxxxxxx"}, {-128, "aaaaaaax"}, {least, "aaaaaaaa"}, {least + 3, "xxaaaaaa"}, {greatest, "xxxxxxxx"},
	} {
		d := made(t, 9, 1)
		wrote(t, d, 0, "x", api.OK)
		d.Crash(c.keep)
		d.Restore()
		holds(t, d, c.want)
	}
}

func TestP203Places(t *testing.T) {
	d := made(t, 9, 3)
	for i, c := range []string{"p", "q", "r", "s", "t"} {
		wrote(t, d, i%2, c, api.OK)
	}
	keep := []int{15, 1, 6, 255, 12, 255, 255}
	d.Twin().Crash(keep[:3]...)
	d.Crash(keep[:4]...)
	if keep[4] != 12 || keep[0] != 15 {
		t.Error("what was handed in is changed")
	}
	d.Restore()
	holds(t, d, "prrpaaaa", "s", "c") // the fifth one has no keep
	for range 2 {
		d.Crash(255, 255, 255) // all was synced by the first crash
		d.Restore()
		holds(t, d, "prrpaaaa", "s", "c")
	}
	for i := range 100 {
		wrote(t, d, i%3, string([]byte{byte(i)}), api.OK)
	}
	many := make([]int, 200)
	many[97], many[94], many[95], many[2], many[150] = 1, 3, 255, 255, 255
	d.Crash(many...)
	d.Restore()
	holds(t, d, "prrpaaaa", "a^ssssss", "_")
}

func TestP203Restore(t *testing.T) {
	d := made(t, 9, 1)
	wrote(t, d, 0, "x", api.OK)
	d.Restore() // there is power: nothing changes
	if !d.On() || d.Unsynced() != 1 {
		t.Error(d.On(), d.Unsynced())
	}
	d.Fuse(0)
	d.Restore()
	if e := d.Sync(); e != api.ErrOff {
		t.Error("the fuse is gone", e)
	}
	d.Restore() // without a crash all is as it was
	if !d.On() || d.Unsynced() != 1 {
		t.Error(d.On(), d.Unsynced())
	}
	holds(t, d, "x")
}

func TestP204Twin(t *testing.T) {
	d := made(t, 4, 2)
	for i, c := range []string{"p", "q", "r", "s", "t"} {
		wrote(t, d, i%2, c, api.OK)
	}
	d.Fuse(3)
	a, b := d.Twin(), d.Twin()
	for _, x := range []*Dev{d, a, b} {
		if !x.On() || x.Len() != 2 || x.Unsynced() != 5 || x.Grow(5) != api.ErrFull || x.Grow(4) != api.OK {
			t.Error(x.On(), x.Len(), x.Unsynced())
		}
	}
	wrote(t, a, 2, "z", api.OK)
	wrote(t, a, 3, "y", api.ErrOff) // its fuse
	a.Restore()
	holds(t, a, "t", "s", "z", "y")
	holds(t, d, "t", "s", "\x00", "\x00")
	b.Crash(255, 0, 0, 3, 0, 255)
	b.Restore()
	holds(t, b, "p", "ssbbbbbb", "\x00", "\x00")
	if !d.On() || d.Unsynced() != 5 || a.Unsynced() != 7 {
		t.Error(d.On(), d.Unsynced(), a.Unsynced())
	}
	d.Crash(0, 1, 2, 4, 8)
	off := d.Twin()
	if off.On() || off.Len() != 4 || off.Unsynced() != 0 {
		t.Error("a twin without power", off.On(), off.Len(), off.Unsynced())
	}
	off.Restore()
	holds(t, off, "arataaaa", "qbsbbbbb", "\x00", "\x00")
	if d.On() {
		t.Error("two devices are one")
	}
}

func TestP204None(t *testing.T) {
	var none *Dev
	if none.Twin() != nil {
		t.Error("a twin of none")
	}
	for _, d := range []*Dev{none, {}, new(Dev).Twin()} {
		for range 2 {
			for i, f := range operations() {
				if e := f(d); e != api.ErrOff {
					t.Errorf("operation %d: %d", i, e)
				}
			}
			if b, e := d.Read(0); b != "" || e != api.ErrOff {
				t.Error("Read", e)
			}
			if d.On() || d.Len() != 0 || d.Unsynced() != 0 {
				t.Error(d.On(), d.Len(), d.Unsynced())
			}
			d.Fuse(-1)
			d.Fuse(3)
			d.Crash(1, 2)
			d.Crash()
			d.Restore()
		}
	}
}

// sheet is a page of the plain device, which takes the document's words one by one.
type sheet [api.PageSize]byte

type note struct {
	page int
	data sheet
}

// plain is a device that keeps its writes as a list, and lays them over the synced pages whenever it is asked.
type plain struct {
	on     bool
	fuse   int
	synced []sheet
	notes  []note
}

func (p *plain) twin() *plain {
	q := *p
	q.synced = append([]sheet(nil), p.synced...)
	q.notes = append([]note(nil), p.notes...)
	return &q
}

// lay writes the sectors of all notes whose bits keep has.
func (p *plain) lay(keep func(i int) int) []sheet {
	pages := append([]sheet(nil), p.synced...)
	for i, n := range p.notes {
		for b, c := range n.data {
			if (keep(i)%256+256)%256>>(b/api.Sector)%2 == 1 {
				pages[n.page][b] = c
			}
		}
	}
	return pages
}

func all(int) int { return 255 }

// step does an operation; done is called where it would have been done, and none fails at the fuse but a Write.
func (p *plain) step(e api.Errno, write bool, done func()) api.Errno {
	if !p.on {
		return api.ErrOff
	}
	off := p.fuse == 0
	if p.fuse >= 0 {
		p.fuse--
	}
	if e == api.OK && (!off || write) {
		done()
	}
	if off {
		p.on = false
		return api.ErrOff
	}
	return e
}

const plainMost = 6

func (p *plain) grow(n int) api.Errno {
	e := api.OK
	if n > plainMost {
		e = api.ErrFull
	}
	if n < len(p.synced) {
		e = api.ErrArg
	}
	return p.step(e, false, func() { p.synced = append(p.synced, make([]sheet, n-len(p.synced))...) })
}

func (p *plain) write(page int, data string) api.Errno {
	e := api.OK
	if len(data) != api.PageSize {
		e = api.ErrArg
	}
	if page < 0 || page >= len(p.synced) {
		e = api.ErrIndex
	}
	return p.step(e, true, func() { p.notes = append(p.notes, note{page, sheet([]byte(data))}) })
}

func (p *plain) settle(keep func(i int) int) { p.synced, p.notes = p.lay(keep), nil }

// dice strews numbers by a short rule.
type dice uint64

func (x *dice) roll(n int) int {
	*x = *x*6364136223846793005 + 1442695040888963407
	return int(uint64(*x) >> 33 % uint64(n))
}

// turn does one thing to both, and says whether both answered the same.
func turn(x *dice, d *Dev, p *plain) (string, bool) {
	switch n := x.roll(16); n {
	case 0:
		n := x.roll(plainMost+3) - 1
		return "Grow", d.Grow(n) == p.grow(n)
	case 1:
		return "Sync", d.Sync() == p.step(api.OK, false, func() { p.settle(all) })
	case 2:
		keep := make([]int, x.roll(2+2*len(p.notes)))
		for i := range keep {
			keep[i] = x.roll(2000) - 1000
		}
		d.Crash(keep...)
		keep = append(keep, make([]int, len(p.notes))...)
		p.settle(func(i int) int { return keep[i] })
		p.on, p.fuse = false, -1
		return "Crash", true
	case 3:
		n := x.roll(20) - 2
		d.Fuse(n)
		p.fuse = max(n, -1)
		return "Fuse", true
	case 4, 5:
		d.Restore()
		p.on = true
		return "Restore", true
	}
	page, data := x.roll(plainMost+2)-1, ""
	for range api.PageSize - x.roll(10)/9 {
		data += string([]byte{byte(x.roll(256))})
	}
	return "Write", d.Write(page, data) == p.write(page, data)
}

// alike says whether both tell the same of themselves.
func alike(d *Dev, p *plain) bool {
	if d.On() != p.on || d.Len() != len(p.synced) || d.Unsynced() != len(p.notes) {
		return false
	}
	pages := p.lay(all)
	for i := -1; i <= len(pages); i++ {
		b, e := d.Read(i)
		want, err := "", api.ErrIndex
		if i >= 0 && i < len(pages) {
			want, err = string(pages[i][:]), api.OK
		}
		if !p.on {
			want, err = "", api.ErrOff
		}
		if b != want || e != err {
			return false
		}
	}
	return true
}

func TestP205Behind(t *testing.T) {
	var x dice
	d, _ := New(plainMost)
	p := &plain{on: true, fuse: -1}
	for i := range 20000 {
		if x.roll(8) == 0 { // the twins go on, what they are twins of is torn
			olds, oldp := d, p
			d, p = d.Twin(), p.twin()
			olds.Crash(255, 255, 255)
			olds.Restore()
			olds.Sync()
			oldp.settle(all)
		}
		what, ok := turn(&x, d, p)
		if !ok || !alike(d, p) {
			t.Fatalf("step %d, %s: not as the document says", i, what)
		}
	}
}

func TestP205Stays(t *testing.T) {
	for fuse := range 12 { // wherever the power fails, whatever stays
		for _, keep := range []int{0, 1, 90, 255} {
			d := made(t, 9, 4)
			d.Fuse(fuse)
			for range 3 {
				d.Write(1, full("x"))
				d.Write(2, full("y"))
				d.Sync()
			}
			d.Crash(keep, keep, keep)
			d.Restore()
			a, _ := d.Read(0)
			z, _ := d.Read(3)
			if a != full("a") || z != full("d") {
				t.Errorf("Fuse(%d), Crash(%d): a page that was not written has changed", fuse, keep)
			}
			x, _ := d.Read(1)
			if fuse >= 3 && x != full("x") {
				t.Errorf("Fuse(%d), Crash(%d): what was synced is gone", fuse, keep)
			}
		}
	}
}

func BenchmarkCommit(b *testing.B) {
	d, _ := New(api.MaxPages)
	d.Grow(api.MaxPages)
	data := full("x")
	for range b.N {
		for i := range 10 {
			d.Write(i, data)
		}
		d.Sync()
	}
}

func BenchmarkTwin(b *testing.B) {
	d, _ := New(api.MaxPages)
	d.Grow(api.MaxPages)
	for range b.N {
		d.Twin()
	}
}
