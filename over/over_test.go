package over

import (
	"fmt"
	"slices"
	"strings"
	"testing"

	"arboretum/api"
	"arboretum/dev"
	"arboretum/free"
	"arboretum/page"
	"arboretum/pager"
)

const (
	low  = -1 << 63
	high = 1<<63 - 1
	now  = 7 // the transaction of a pager
)

// dice is a short rule that strews numbers.
type dice uint64

func (d *dice) roll(n int) int {
	*d = *d*6364136223846793005 + 1442695040888963407
	return int(uint64(*d>>33) % uint64(n))
}

// text tells so many bytes.
func (d *dice) text(n int) string {
	b := make([]byte, n)
	for i := range b {
		b[i] = byte(d.roll(256))
	}
	return string(b)
}

// bed is a device, its free pages, and a pager over all of it.
type bed struct {
	dev   *dev.Dev
	free  *free.Free
	pager *pager.Pager
}

// made tells a bed of so many pages, of which some are free.
func made(t *testing.T, most, pages int, loose ...int) bed {
	t.Helper()
	d, e := dev.New(most)
	if e != api.OK || d.Grow(pages) != api.OK {
		t.Fatal("no device", e)
	}
	f := free.New(loose...)
	p, e := pager.New(d, f, pages, now)
	if e != api.OK {
		t.Fatal("no pager", e)
	}
	return bed{d, f, p}
}

// state tells all that a call may change.
func (b bed) state() string {
	p := b.pager
	return fmt.Sprint(p.Pages(), p.Made(), p.Dropped(), p.Spare(), b.free.All(), b.free.List(), b.dev.Len(), b.dev.Unsynced())
}

// write lays a page on the device, for an elder state.
func (b bed) write(t *testing.T, id int, x api.Page) {
	t.Helper()
	s, e := page.Seal(id, x)
	if e != api.OK || b.dev.Write(id, s) != api.OK {
		t.Fatal("page", id, "can't be written", e)
	}
}

// chain tells the pages of a chain that has a value, by another hand than the program's.
func chain(value string, ids ...int) []api.Page {
	var l []api.Page
	for i := range ids {
		x := api.Page{Kind: 4, Body: value}
		if i < len(ids)-1 {
			x.Body, value, x.Next = value[:240], value[240:], ids[i+1]
		}
		l = append(l, x)
	}
	return l
}

// lay lays pages on the device.
func (b bed) lay(t *testing.T, l []api.Page, ids ...int) {
	t.Helper()
	for i, id := range ids {
		b.write(t, id, l[i])
	}
}

// fault holds that a chain is refused by all, and that nothing happens.
func (b bed) fault(t *testing.T, what string, first, size int, want api.Errno) {
	t.Helper()
	was := b.state()
	if ids, e := Pages(b.pager, first, size); e != want || len(ids) != 0 {
		t.Errorf("%s: Pages(%d, %d): %v, %d, not %d", what, first, size, ids, e, want)
	}
	if v, e := Get(b.pager, first, size); e != want || v != "" {
		t.Errorf("%s: Get(%d, %d): %d bytes, %d, not %d", what, first, size, len(v), e, want)
	}
	if e := Drop(b.pager, first, size); e != want {
		t.Errorf("%s: Drop(%d, %d): %d, not %d", what, first, size, e, want)
	}
	if is := b.state(); is != was {
		t.Errorf("%s: %d, %d: %s behind an error, not %s", what, first, size, is, was)
	}
}

// has holds that a chain has a value, on these pages.
func (b bed) has(t *testing.T, value string, ids ...int) {
	t.Helper()
	was := b.state()
	if l, e := Pages(b.pager, ids[0], len(value)); e != api.OK || !slices.Equal(l, ids) {
		t.Errorf("Pages(%d, %d): %v, %d, not %v", ids[0], len(value), l, e, ids)
	}
	if v, e := Get(b.pager, ids[0], len(value)); e != api.OK || v != value {
		t.Errorf("Get(%d, %d): %d bytes, %d", ids[0], len(value), len(v), e)
	}
	if is := b.state(); is != was {
		t.Errorf("%s behind what only reads, not %s", is, was)
	}
}

// put holds that a value is put, from a page on.
func (b bed) put(t *testing.T, value string, want int) {
	t.Helper()
	if id, e := Put(b.pager, value); e != api.OK || id != want {
		t.Fatalf("Put(%d bytes): %d, %d, not %d", len(value), id, e, want)
	}
}

// unput holds that a value is refused, and that nothing is made.
func (b bed) unput(t *testing.T, value string, want api.Errno) {
	t.Helper()
	was := fmt.Sprint(b.pager.Made(), b.pager.Dropped(), b.free.All(), b.free.List())
	if id, e := Put(b.pager, value); e != want || id != 0 {
		t.Errorf("Put(%d bytes): %d, %d, not %d", len(value), id, e, want)
	}
	if is := fmt.Sprint(b.pager.Made(), b.pager.Dropped(), b.free.All(), b.free.List()); is != was {
		t.Errorf("Put(%d bytes): %s behind an error, not %s", len(value), is, was)
	}
}

func lengths(l []string) []int {
	var n []int
	for _, s := range l {
		n = append(n, len(s))
	}
	return n
}

func TestP1001CutTellsPieces(t *testing.T) {
	d := dice(1)
	for n, want := range map[int][]int{
		0: nil, 1: {1}, 239: {239}, 240: {240}, 241: {240, 1}, 479: {240, 239}, 480: {240, 240}, 481: {240, 240, 1},
		500: {240, 240, 20}, 2000: {240, 240, 240, 240, 240, 240, 240, 240, 80},
		2001: {240, 240, 240, 240, 240, 240, 240, 240, 81}, // more than a value has, and cut as well
	} {
		value := d.text(n)
		l := Cut(value)
		if !slices.Equal(lengths(l), want) || strings.Join(l, "") != value {
			t.Errorf("Cut of %d bytes: %v, not %v", n, lengths(l), want)
		}
	}
	if l := Cut(d.text(240 * 500)); len(l) != 500 {
		t.Errorf("Cut of 500 bodies: %d", len(l))
	}
}

func TestP1001PutMakesFromTheLastPieceOn(t *testing.T) {
	d := dice(2)
	b, value := made(t, 20, 12, 9, 5, 11), d.text(4*240+17)
	b.put(t, value, 13)
	want := map[int]api.Page{
		13: {Kind: 4, Next: 12, Body: value[:240]},
		12: {Kind: 4, Next: 11, Body: value[240:480]},
		11: {Kind: 4, Next: 9, Body: value[480:720]},
		9:  {Kind: 4, Next: 5, Body: value[720:960]},
		5:  {Kind: 4, Next: 0, Body: value[960:]},
	}
	for id, x := range want {
		if y, e := b.pager.Read(id); e != api.OK || y != x {
			t.Errorf("page %d: %#v, %d, not %#v", id, y, e, x)
		}
	}
	if l := b.pager.Made(); !slices.Equal(l, []int{5, 9, 11, 12, 13}) {
		t.Errorf("made: %v", l)
	}
	b.has(t, value, 13, 12, 11, 9, 5)
}

func TestP1001PutAtItsLimits(t *testing.T) {
	d := dice(3)
	for n, pages := range map[int]int{1: 1, 239: 1, 240: 1, 241: 2, 480: 2, 481: 3, 1919: 8, 1920: 8, 1921: 9, 1999: 9, 2000: 9} {
		b, value := made(t, 20, 2), d.text(n)
		b.put(t, value, 1+pages)
		var ids []int
		for id := 1 + pages; id > 1; id-- {
			ids = append(ids, id)
		}
		b.has(t, value, ids...)
		if l := b.pager.Made(); len(l) != pages {
			t.Errorf("%d bytes: made %v", n, l)
		}
	}
}

func TestP1001PutRefusesAValue(t *testing.T) {
	b := made(t, 40, 4, 3)
	was := b.state()
	for _, n := range []int{0, api.MaxValue + 1, api.MaxValue + 240, 3 * api.MaxValue} {
		b.unput(t, strings.Repeat("x", n), api.ErrArg)
	}
	if is := b.state(); is != was {
		t.Errorf("%s, not %s", is, was)
	}
	full := made(t, 2, 2)
	full.unput(t, "", api.ErrArg) // ahead of Make's error
	full.unput(t, strings.Repeat("x", api.MaxValue+1), api.ErrArg)
	full.unput(t, "x", api.ErrFull)
}

func TestP1001PutWithoutRoomMakesNothing(t *testing.T) {
	d := dice(4)
	for loose := range 6 {
		for behind := range 9 - loose {
			room := loose + behind // one page too few, or more
			l := []int{4, 2, 7, 3, 9, 8}[:loose]
			b := made(t, 10+behind, 10, l...)
			b.unput(t, d.text(240*room+1), api.ErrFull)
			b.unput(t, d.text(2000), api.ErrFull)
			if s := b.pager.Spare(); len(s) != behind || len(b.pager.Made()) != 0 {
				t.Errorf("%d free, %d behind: spare %v, made %v", loose, behind, s, b.pager.Made())
			}
			if room == 0 {
				continue
			}
			value := d.text(240 * room)
			id, e := Put(b.pager, value)
			if v, f := Get(b.pager, id, len(value)); e != api.OK || f != api.OK || v != value {
				t.Errorf("%d free, %d behind: %d, %d", loose, behind, e, f)
			}
			b.unput(t, "x", api.ErrFull)
		}
	}
}

func TestP1001PutWithoutPowerMakesNothing(t *testing.T) {
	d := dice(5)
	for fuse := range 5 {
		b := made(t, 40, 6, 2, 4)
		b.put(t, "elder", 2)
		b.dev.Fuse(fuse) // Grow by Grow: one piece stands on the free page 4
		b.unput(t, d.text(5*240+1), api.ErrOff)
		if l, s := b.pager.Made(), b.pager.Spare(); !slices.Equal(l, []int{2}) || len(s) != fuse {
			t.Errorf("fuse %d: made %v, spare %v", fuse, l, s)
		}
		b.unput(t, d.text(2000), api.ErrOff)
	}
}

func TestP1002AChainIsWalkedByItsNext(t *testing.T) {
	d := dice(6)
	ids := []int{17, 4, 11, 2, 30, 29, 3, 9, 6}
	for _, n := range []int{1, 240, 241, 700, 960, 1201, 1920, 1921, 2000} {
		b, value := made(t, 31, 31), d.text(n)
		own := ids[:(n+239)/240]
		b.lay(t, chain(value, own...), own...)
		b.has(t, value, own...)
		b.dev.Sync()
		b.has(t, value, own...)
	}
}

func TestP1002PagesAreNewEachTime(t *testing.T) {
	d := dice(7)
	b, value := made(t, 9, 2), d.text(700)
	b.put(t, value, 4)
	l, _ := Pages(b.pager, 4, 700)
	clear(l)
	b.has(t, value, 4, 3, 2)
}

func TestP1002SizeIsLookedAtFirst(t *testing.T) {
	d := dice(8)
	b := made(t, 20, 2)
	b.put(t, d.text(2000), 10)
	for _, size := range []int{0, -1, -240, low, api.MaxValue + 1, api.MaxValue + 160, 2240, high} {
		for _, first := range []int{10, 2, 1, 99, low, high} {
			b.fault(t, "size", first, size, api.ErrArg)
		}
	}
	b.dev.Crash()
	b.fault(t, "size without power", 10, 0, api.ErrArg)
}

func TestP1002OtherSizesAreCorrupt(t *testing.T) {
	d := dice(9)
	for _, n := range []int{1, 20, 240, 241, 500, 720, 1999, 2000} {
		b := made(t, 20, 2)
		first, _ := Put(b.pager, d.text(n))
		for size := 1; size <= api.MaxValue; size++ {
			if size != n {
				b.fault(t, "another size", first, size, api.ErrCorrupt)
			}
		}
	}
}

func TestP1002ReadsErrorsAtEachPlace(t *testing.T) {
	d := dice(10)
	ids := []int{5, 9, 3, 12}
	for i, id := range ids {
		begin := func() bed {
			b := made(t, 20, 13)
			b.lay(t, chain(d.text(900), ids...), ids...)
			return b
		}
		b := begin()
		b.pager.Drop(id)
		b.fault(t, "dropped", 5, 900, api.ErrNone)
		b = begin()
		s, _ := b.dev.Read(id)
		b.dev.Write(id, "\x00"+s[1:])
		b.fault(t, "torn", 5, 900, api.ErrSum)
		s, _ = page.Seal(6, chain(d.text(900), ids...)[i])
		b.dev.Write(id, s)
		b.fault(t, "another page's bytes", 5, 900, api.ErrForm)
		b.dev.Crash()
		b.fault(t, "without power", 5, 900, api.ErrOff)
	}
	b := made(t, 20, 13)
	for _, first := range []int{0, 1, -1, low, 13, 14, high} {
		b.fault(t, "first", first, 240, api.ErrIndex)
	}
}

func TestP1002NextBeyondThePages(t *testing.T) {
	d := dice(11)
	ids := []int{5, 9, 3, 12}
	for i := range ids[1:] {
		for _, next := range []int{1, 13, 1<<32 - 1} {
			b, l := made(t, 20, 13), chain(d.text(900), ids...)
			l[i].Next = next
			b.lay(t, l, ids...)
			b.fault(t, "next", 5, 900, api.ErrIndex)
		}
	}
}

func TestP1002FaultsAtEachPlaceAreCorrupt(t *testing.T) {
	d := dice(12)
	ids := []int{5, 9, 3, 12}
	for i := range ids[1:] { // the last one has a test of its own
		bad := func(what string, turn func(x *api.Page)) {
			t.Helper()
			b, l := made(t, 20, 13), chain(d.text(900), ids...)
			turn(&l[i])
			b.lay(t, l, ids...)
			b.fault(t, fmt.Sprint(what, " at ", i), 5, 900, api.ErrCorrupt)
			b.has(t, l[3].Body, 12)
		}
		for kind := 1; kind < 256; kind++ {
			if kind != 4 {
				bad("kind", func(x *api.Page) { x.Kind = kind })
			}
		}
		for n := range 240 {
			bad("shorter", func(x *api.Page) { x.Body = x.Body[:n] })
		}
		bad("an early end", func(x *api.Page) { x.Next = 0 })
	}
}

func TestP1002FaultsOfTheLastPageAreCorrupt(t *testing.T) {
	d := dice(13)
	for _, last := range []int{1, 180, 239, 240} {
		for i := range 6 {
			ids := []int{5, 9, 3, 12, 8, 4}[:i+1]
			bad := func(what string, turn func(x *api.Page)) {
				t.Helper()
				b, l := made(t, 20, 13), chain(d.text(i*240+last), ids...)
				turn(&l[i])
				b.lay(t, l, ids...)
				b.fault(t, what, 5, i*240+last, api.ErrCorrupt)
			}
			for _, kind := range []int{1, 2, 3, 5, 6, 255} {
				bad("kind", func(x *api.Page) { x.Kind = kind })
			}
			for n := range 241 {
				if n != last {
					bad("length", func(x *api.Page) { x.Body = strings.Repeat("l", n) })
				}
			}
			for _, next := range []int{1, 2, 4, 5, 12, 13, 1<<32 - 1} {
				bad("no end", func(x *api.Page) { x.Next = next })
			}
		}
	}
}

func TestP1002APageTwiceIsCorrupt(t *testing.T) {
	d := dice(14)
	ids := []int{5, 9, 3, 12, 8, 4, 2, 7}
	for n := 1; n <= len(ids); n++ {
		for from := range n {
			for to := range from + 1 {
				b, l := made(t, 20, 13), chain(d.text(1920), ids...)
				l[from].Next = ids[to]
				b.lay(t, l, ids...)
				for size := (from + 1) * 240; size <= 1920; size += 240 {
					b.fault(t, "round", 5, size, api.ErrCorrupt)
				}
				b.fault(t, "round", 5, 2000, api.ErrCorrupt)
			}
		}
	}
}

func TestP1002TheFirstFaultOnTheWayIsTold(t *testing.T) {
	d := dice(15)
	l := chain(d.text(700), 5, 9, 3)
	b := made(t, 20, 13)
	l[1].Kind, l[1].Next = api.PageLeaf, 99 // where another kind's Next leads is of no weight
	b.lay(t, l, 5, 9, 3)
	b.fault(t, "kind, then none", 5, 700, api.ErrCorrupt)
	l = chain(d.text(700), 5, 9, 3)
	l[2].Kind = api.PageLeaf
	b.lay(t, l, 5, 9, 3)
	b.pager.Drop(9)
	b.fault(t, "dropped, then a kind", 5, 700, api.ErrNone)
}

func TestP1002DropOfAnElderStatesChain(t *testing.T) {
	d := dice(16)
	b := made(t, 20, 13, 6)
	ids, others := []int{5, 9, 3, 12}, []int{8, 4}
	value, other := d.text(900), d.text(300)
	b.lay(t, chain(value, ids...), ids...)
	b.lay(t, chain(other, others...), others...)
	if e := Drop(b.pager, 5, 900); e != api.OK {
		t.Fatal(e)
	}
	if l := b.pager.Dropped(); !slices.Equal(l, []int{3, 5, 9, 12}) || len(b.pager.Spare()) != 0 {
		t.Errorf("dropped: %v, spare: %v", l, b.pager.Spare())
	}
	b.fault(t, "dropped", 5, 900, api.ErrNone)
	b.has(t, other, 8, 4)
	if l := b.free.All(); !slices.Equal(l, []int{6}) {
		t.Errorf("free ahead of a Flush: %v", l)
	}
	if e := b.pager.Flush(); e != api.OK {
		t.Fatal(e)
	}
	if l := b.free.All(); !slices.Equal(l, []int{3, 5, 6, 9, 12}) {
		t.Errorf("free or waiting behind a Flush: %v", l)
	}
}

func TestP1002DropOfAChainMadeHere(t *testing.T) {
	d := dice(17)
	b := made(t, 20, 10, 6, 4)
	value, other := d.text(1000), d.text(480)
	b.put(t, value, 12)
	b.put(t, other, 14)
	if e := Drop(b.pager, 12, 1000); e != api.OK {
		t.Fatal(e)
	}
	made, dropped, spare, loose := b.pager.Made(), b.pager.Dropped(), b.pager.Spare(), b.free.List()
	if got := fmt.Sprint(made, dropped, spare, loose); got != "[13 14] [] [10 11 12] [4 6]" {
		t.Error(got)
	}
	b.fault(t, "dropped", 12, 1000, api.ErrNone)
	b.has(t, other, 14, 13)
	b.put(t, value, 6) // spare ones, then free ones
	b.has(t, value, 6, 4, 12, 11, 10)
}

func TestP1003GetOfPutIsTheValue(t *testing.T) {
	for seed := range 20 {
		walk1003(t, dice(seed))
	}
}

// walk1003 puts and drops chains beside a map of what there is.
func walk1003(t *testing.T, d dice) {
	t.Helper()
	b, here := made(t, 60, 2), map[int]string{}
	for range 300 {
		value := d.text(d.roll(1+d.roll(2200)) + d.roll(2))
		id, e := Put(b.pager, value)
		if bad := value == "" || len(value) > api.MaxValue; bad != (e == api.ErrArg) || !bad && e != api.OK && e != api.ErrFull {
			t.Fatalf("%d bytes: %d", len(value), e)
		}
		if e == api.OK {
			here[id] = value
		}
		if d.roll(9) == 0 {
			if e := b.pager.Flush(); e != api.OK {
				t.Fatal(e)
			}
			b.free.Release()
		}
		firsts := holds(t, b, here)
		for _, id := range firsts[:min(d.roll(3), len(firsts))] {
			if e := Drop(b.pager, id, len(here[id])); e != api.OK {
				t.Fatal(e)
			}
			delete(here, id)
		}
	}
}

// holds holds that each chain has its value, on pages that no other one has; the first pages of all, rising.
func holds(t *testing.T, b bed, here map[int]string) []int {
	t.Helper()
	var firsts, all []int
	for id, value := range here {
		if v, e := Get(b.pager, id, len(value)); e != api.OK || v != value {
			t.Fatalf("Get(%d, %d): %d bytes, %d", id, len(value), len(v), e)
		}
		l, _ := Pages(b.pager, id, len(value))
		all = append(all, l...)
		firsts = append(firsts, id)
	}
	slices.Sort(all)
	if len(slices.Compact(slices.Clone(all))) != len(all) {
		t.Fatalf("pages of two chains: %v", all)
	}
	slices.Sort(firsts)
	return firsts
}

func TestP1003NoPager(t *testing.T) {
	for _, p := range []*pager.Pager{nil, {}} {
		for _, n := range []int{0, 1, 240, 500, 2000, 2001} {
			if id, e := Put(p, strings.Repeat("x", n)); id != 0 || e != api.ErrArg {
				t.Errorf("Put(%d bytes): %d, %d", n, id, e)
			}
			for _, first := range []int{0, 2, low, high} {
				ids, e := Pages(p, first, n)
				v, f := Get(p, first, n)
				g := Drop(p, first, n)
				if len(ids) != 0 || v != "" || e != api.ErrArg || f != api.ErrArg || g != api.ErrArg {
					t.Errorf("%d, %d: %v, %d, %q, %d, %d", first, n, ids, e, v, f, g)
				}
			}
		}
	}
}
