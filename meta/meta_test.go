package meta

import (
	"encoding/binary"
	"hash/crc32"
	"strings"
	"testing"

	"arboretum/api"
	"arboretum/dev"
	"arboretum/page"
)

const (
	most = 1<<48 - 1 // the greatest number of a meta
	low  = -1 << 63
	high = 1<<63 - 1
)

// dice rolls numbers that are the same in each run.
type dice uint64

func (d *dice) roll(n int) int {
	*d = *d*6364136223846793005 + 1442695040888963407
	return int(uint64(*d>>33) % uint64(n))
}

// sealed lays a page by another hand than the program's.
func sealed(id, kind, next int, body string) string {
	b := []byte{byte(kind)}
	b = binary.LittleEndian.AppendUint32(b, uint32(id))
	b = binary.LittleEndian.AppendUint32(b, uint32(next))
	b = binary.LittleEndian.AppendUint16(b, uint16(len(body)))
	b = append(b, body...)
	b = append(b, make([]byte, 252-len(b))...)
	return string(binary.LittleEndian.AppendUint32(b, crc32.ChecksumIEEE(b)))
}

// bodied lays the four numbers of a meta by another hand than the program's.
func bodied(l ...int) string {
	var b []byte
	for _, v := range l {
		b = append(b, binary.LittleEndian.AppendUint64(nil, uint64(v))[:6]...)
	}
	return string(b)
}

func bytesOf(m api.Meta) string {
	return sealed(m.Txn%2, 1, 0, bodied(m.Txn, m.Root, m.Free, m.Pages))
}

// gotten holds what Get tells.
func gotten(t *testing.T, at int, b string, want api.Meta, e api.Errno) {
	t.Helper()
	if m, f := Get(at, b); m != want || f != e {
		t.Errorf("Get(%d, %q): %v, %d, not %v, %d", at, b, m, f, want, e)
	}
}

// chosen holds what Choose tells.
func chosen(t *testing.T, d *dev.Dev, want api.Meta, e api.Errno) {
	t.Helper()
	if m, f := Choose(d); m != want || f != e {
		t.Errorf("Choose: %v, %d, not %v, %d", m, f, want, e)
	}
}

// file tells a device of so many pages.
func file(t *testing.T, pages int) *dev.Dev {
	t.Helper()
	d, e := dev.New(9)
	if e != api.OK || d.Grow(pages) != api.OK {
		t.Fatal("no device")
	}
	return d
}

// written writes a meta that can be.
func written(t *testing.T, d *dev.Dev, m api.Meta) {
	t.Helper()
	if e := Write(d, m); e != api.OK {
		t.Fatalf("Write(%v): %d", m, e)
	}
}

func TestP501Place(t *testing.T) {
	for i := -9; i < 9; i++ {
		if p := Place(2 * i); p != 0 {
			t.Errorf("Place(%d): %d", 2*i, p)
		}
		if p := Place(2*i + 1); p != 1 {
			t.Errorf("Place(%d): %d", 2*i+1, p)
		}
	}
	if Place(low) != 0 || Place(low+1) != 1 || Place(high) != 1 || Place(high-1) != 0 {
		t.Error("a Place at the ends of the numbers")
	}
}

func TestP501PutLaysEachNumber(t *testing.T) {
	want := sealed(1, 1, 0, "\x05\x00\x00\x00\x00\x00"+"\x07\x00\x00\x00\x00\x00"+"\x09\x00\x00\x00\x00\x00"+"\x2c\x01\x00\x00\x00\x00")
	if b, e := Put(api.Meta{Txn: 5, Root: 7, Free: 9, Pages: 300}); b != want || e != api.OK {
		t.Errorf("%q, %d", b, e)
	}
	for _, m := range []api.Meta{
		{},
		{Txn: 1},
		{Txn: 2, Root: 0x0102030405ff},
		{Txn: most, Root: most, Free: most, Pages: most},
		{Txn: most - 1, Root: most - 2, Free: most - 3, Pages: most - 4},
	} {
		b, e := Put(m)
		if b != bytesOf(m) || e != api.OK {
			t.Errorf("Put(%v): %q, %d", m, b, e)
		}
		gotten(t, m.Txn%2, b, m, api.OK)
		gotten(t, 1-m.Txn%2, b, api.Meta{}, api.ErrForm)
	}
}

func TestP501PutRefuses(t *testing.T) {
	for _, v := range []int{-1, low, most + 1, high} {
		for _, m := range []api.Meta{{Txn: v}, {Root: v}, {Free: v}, {Pages: v}, {Txn: v, Root: v, Free: v, Pages: v}} {
			if b, e := Put(m); b != "" || e != api.ErrArg {
				t.Errorf("Put(%v): %q, %d", m, b, e)
			}
		}
	}
}

func TestP501GetTellsOpensError(t *testing.T) {
	b := bytesOf(api.Meta{Txn: 5})
	for n := range api.PageSize {
		gotten(t, 1, b[:n], api.Meta{}, api.ErrShort)
	}
	gotten(t, 1, b+"\x00", api.Meta{}, api.ErrShort)
	gotten(t, 0, strings.Repeat("\x00", api.PageSize), api.Meta{}, api.ErrSum)
	for i := range api.PageSize {
		gotten(t, 1, b[:i]+string([]byte{b[i] ^ 1})+b[i+1:], api.Meta{}, api.ErrSum)
	}
	for _, at := range []int{0, 2, 3, -1, 1 + 1<<32, 1 - 1<<32, low, high} {
		gotten(t, at, b, api.Meta{}, api.ErrForm)
	}
}

func TestP501GetTakesMetasOnly(t *testing.T) {
	body := bodied(5, 7, 9, 300)
	gotten(t, 1, sealed(1, 1, 0, body), api.Meta{Txn: 5, Root: 7, Free: 9, Pages: 300}, api.OK)
	for _, kind := range []int{api.PageLeaf, api.PageBranch, api.PageOver, api.PageFree, 255} {
		gotten(t, 1, sealed(1, kind, 0, body), api.Meta{}, api.ErrForm)
	}
	for _, next := range []int{1, 3, 1<<32 - 1} {
		gotten(t, 1, sealed(1, 1, next, body), api.Meta{}, api.ErrForm)
	}
	long := body + strings.Repeat("\x00", api.Body-len(body))
	for n := range len(long) + 1 {
		if n != len(body) {
			gotten(t, 1, sealed(1, 1, 0, long[:n]), api.Meta{}, api.ErrForm)
		}
	}
}

func TestP501GetHoldsThePlace(t *testing.T) {
	even, odd := bodied(4, 7, 9, 300), bodied(5, 7, 9, 300)
	gotten(t, 0, sealed(0, 1, 0, even), api.Meta{Txn: 4, Root: 7, Free: 9, Pages: 300}, api.OK)
	gotten(t, 0, sealed(0, 1, 0, odd), api.Meta{}, api.ErrForm)
	gotten(t, 1, sealed(1, 1, 0, even), api.Meta{}, api.ErrForm)
	for _, at := range []int{2, 3, 1<<32 - 1} { // pages of that number, but no places of metas
		gotten(t, at, sealed(at, 1, 0, even), api.Meta{}, api.ErrForm)
		gotten(t, at, sealed(at, 1, 0, odd), api.Meta{}, api.ErrForm)
	}
}

func TestP502ChooseTellsReadsError(t *testing.T) {
	d := file(t, 0)
	chosen(t, d, api.Meta{}, api.ErrIndex)
	d.Grow(1)
	chosen(t, d, api.Meta{}, api.ErrIndex)
	written(t, d, api.Meta{Txn: 4}) // it is whole, but the other page can't be read
	chosen(t, d, api.Meta{}, api.ErrIndex)
	d.Grow(2)
	chosen(t, d, api.Meta{Txn: 4}, api.OK)
	d.Crash(255)
	chosen(t, d, api.Meta{}, api.ErrOff)
	d.Restore()
	chosen(t, d, api.Meta{Txn: 4}, api.OK)
	chosen(t, nil, api.Meta{}, api.ErrOff)
	chosen(t, &dev.Dev{}, api.Meta{}, api.ErrOff)
}

func TestP502ChooseTakesTheGreaterTxn(t *testing.T) {
	for _, c := range [][2]int{{0, 1}, {4, 5}, {4, 3}, {6, 1}, {0, 7}, {most - 1, most}, {most - 1, 1}, {0, most}} {
		d := file(t, 2)
		even := api.Meta{Txn: c[0], Root: 1, Free: 2, Pages: 3}
		odd := api.Meta{Txn: c[1], Root: 4, Free: 5, Pages: 6}
		written(t, d, odd)
		chosen(t, d, odd, api.OK)
		written(t, d, even)
		want := odd
		if even.Txn > odd.Txn {
			want = even
		}
		chosen(t, d, want, api.OK)
		d.Sync()
		chosen(t, d, want, api.OK)
	}
}

func TestP502ChooseTheOneThatIsWhole(t *testing.T) {
	bad := []string{
		strings.Repeat("x", api.PageSize),
		strings.Repeat("\x00", api.PageSize),
		sealed(0, 2, 0, bodied(8, 0, 0, 0)),
		sealed(1, 2, 0, bodied(9, 0, 0, 0)),
		sealed(0, 1, 0, bodied(9, 0, 0, 0)),
		sealed(1, 1, 0, bodied(8, 0, 0, 0)),
	}
	for _, b := range bad {
		d := file(t, 2)
		even, odd := api.Meta{Txn: 0, Root: 3}, api.Meta{Txn: 1, Root: 4} // 0 is a Txn as others are
		d.Write(1, b)
		chosen(t, d, api.Meta{}, api.ErrCorrupt)
		written(t, d, even)
		chosen(t, d, even, api.OK)
		d.Write(0, b)
		chosen(t, d, api.Meta{}, api.ErrCorrupt)
		written(t, d, odd)
		chosen(t, d, odd, api.OK)
	}
	chosen(t, file(t, 2), api.Meta{}, api.ErrCorrupt)
}

func TestP502WriteTellsErrors(t *testing.T) {
	d := file(t, 2)
	for _, m := range []api.Meta{{Txn: -1}, {Txn: most + 1}, {Root: -1}, {Free: most + 1}, {Pages: low}} {
		if e := Write(d, m); e != api.ErrArg || d.Unsynced() != 0 {
			t.Errorf("Write(%v): %d, %d writes", m, e, d.Unsynced())
		}
	}
	d.Fuse(0)
	if e := Write(d, api.Meta{Txn: -2}); e != api.ErrArg || !d.On() { // no operation of the device
		t.Errorf("a Write of no meta at a fuse: %d", e)
	}
	if e := Write(d, api.Meta{Txn: 2}); e != api.ErrOff || d.On() {
		t.Errorf("a Write at a fuse: %d", e)
	}
	for _, none := range []*dev.Dev{d, nil, {}} {
		if e := Write(none, api.Meta{Txn: 2}); e != api.ErrOff {
			t.Errorf("a Write without power: %d", e)
		}
		if e := Write(none, api.Meta{Txn: -2}); e != api.ErrArg {
			t.Errorf("a Write of no meta without power: %d", e)
		}
	}
	short := file(t, 1)
	if e := Write(short, api.Meta{Txn: 3}); e != api.ErrIndex {
		t.Errorf("a Write behind the pages: %d", e)
	}
	if e := Write(short, api.Meta{Txn: 2}); e != api.OK {
		t.Errorf("a Write on the only page: %d", e)
	}
}

func TestP502WriteIsNotSynced(t *testing.T) {
	d := file(t, 3)
	m := api.Meta{Txn: 5, Root: 7, Free: 9, Pages: 300}
	written(t, d, m)
	if d.Unsynced() != 1 {
		t.Errorf("%d writes wait", d.Unsynced())
	}
	for at := range 3 {
		want := strings.Repeat("\x00", api.PageSize)
		if at == 1 {
			want = bytesOf(m)
		}
		if b, e := d.Read(at); b != want || e != api.OK {
			t.Errorf("page %d: %q, %d", at, b, e)
		}
	}
	d.Crash()
	d.Restore()
	chosen(t, d, api.Meta{}, api.ErrCorrupt)
}

func TestP502Example(t *testing.T) {
	d := file(t, 2)
	written(t, d, api.Meta{Txn: 4})
	written(t, d, api.Meta{Txn: 5})
	d.Sync()
	d.Write(1, "y"+strings.Repeat("x", api.PageSize-1))
	chosen(t, d, api.Meta{Txn: 4}, api.OK)
}

func TestP503WriteLeavesTheOneAhead(t *testing.T) {
	d := file(t, 2)
	ahead := api.Meta{Txn: 0, Root: 9}
	written(t, d, ahead)
	for txn := 1; txn < 20; txn++ {
		m := api.Meta{Txn: txn, Root: txn * 3, Free: txn * 5, Pages: txn * 7}
		written(t, d, m)
		if b, _ := d.Read(Place(ahead.Txn)); b != bytesOf(ahead) {
			t.Errorf("Write of %d touches %d", txn, ahead.Txn)
		}
		chosen(t, d, m, api.OK)
		ahead = m
	}
}

// torn says whether such a keep leaves a page that is neither as it was nor as it was written.
func torn(was, new string, keep int) bool {
	b := ""
	for i := range api.PageSize / api.Sector {
		from := was
		if keep>>i&1 == 1 {
			from = new
		}
		b += from[i*api.Sector : (i+1)*api.Sector]
	}
	return b != was && b != new
}

func TestP503ATornMetaLeavesTheOther(t *testing.T) {
	old := api.Meta{Txn: 4, Root: 3, Free: 2, Pages: 1 << 40}
	last := api.Meta{Txn: 5, Root: 7, Free: 9, Pages: 300}
	next := api.Meta{Txn: 6, Root: 1 << 33, Free: 10, Pages: 1<<40 + 1<<30}
	for keep := range 256 {
		d := file(t, 2)
		written(t, d, old)
		written(t, d, last)
		d.Sync()
		d.Fuse(0)
		if e := Write(d, next); e != api.ErrOff {
			t.Fatalf("the power does not fail: %d", e)
		}
		d.Crash(keep)
		d.Restore()
		b, _ := d.Read(0)
		if torn(bytesOf(old), bytesOf(next), keep) {
			gotten(t, 0, b, api.Meta{}, api.ErrSum)
		}
		want := last
		if b == bytesOf(next) {
			want = next
		}
		chosen(t, d, want, api.OK)
	}
}

func TestP503WhereverThePowerFails(t *testing.T) {
	var r dice = 5
	d := file(t, 2)
	last := api.Meta{}
	written(t, d, last)
	d.Sync()
	for range 5000 {
		next := api.Meta{Txn: last.Txn + 1, Root: r.roll(1 << 30), Free: r.roll(1 << 30), Pages: r.roll(1<<30) << r.roll(18)}
		d.Fuse(r.roll(4) - 1)
		e := Write(d, next)
		if f := d.Sync(); e == api.OK {
			e = f
		}
		if e != api.OK {
			d.Crash(r.roll(256) | r.roll(256))
			d.Restore()
			m, f := Choose(d)
			if f != api.OK || m != last && m != next {
				t.Fatalf("%v, %d, neither %v nor %v", m, f, last, next)
			}
			last = m
			continue
		}
		d.Fuse(-1)
		chosen(t, d, next, api.OK)
		last = next
	}
}

func TestP501WhatIsOpenedIsWhatPutLays(t *testing.T) {
	var r dice = 77
	for range 3000 {
		m := api.Meta{Txn: r.roll(1<<24)<<24 | r.roll(1<<24), Root: r.roll(1 << 30), Free: r.roll(9), Pages: r.roll(1<<18) << 30}
		b, e := Put(m)
		if e != api.OK || b != bytesOf(m) {
			t.Fatalf("Put(%v): %q, %d", m, b, e)
		}
		gotten(t, m.Txn%2, b, m, api.OK)
		p, e := page.Open(m.Txn%2, b)
		if e != api.OK || p.Kind != api.PageMeta || p.Next != 0 || len(p.Body) != 24 {
			t.Fatalf("page of %v: %v, %d", m, p, e)
		}
	}
}
