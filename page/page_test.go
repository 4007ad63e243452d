package page

import (
	"encoding/binary"
	"hash/crc32"
	"strings"
	"testing"

	"arboretum/api"
	"arboretum/num"
)

const most = 1<<32 - 1 // the greatest number of a page

// dice rolls numbers that are the same in each run.
type dice uint64

func (d *dice) roll(n int) int {
	*d = *d*6364136223846793005 + 1442695040888963407
	return int(uint64(*d>>33) % uint64(n))
}

// text rolls some bytes.
func (d *dice) text(n int) string {
	b := make([]byte, n)
	for i := range b {
		b[i] = byte(d.roll(256))
	}
	return string(b)
}

func zeros(n int) string { return strings.Repeat("\x00", n) }

// summed lays the sum behind bytes, by another hand than the program's.
func summed(b string) string {
	return string(binary.LittleEndian.AppendUint32([]byte(b), crc32.ChecksumIEEE([]byte(b))))
}

// filled lays zeros behind some bytes, and the sum.
func filled(b string) string { return summed(b + zeros(252-len(b))) }

func mustSeal(t *testing.T, id int, p api.Page) string {
	t.Helper()
	b, e := Seal(id, p)
	if e != api.OK || len(b) != api.PageSize {
		t.Fatalf("Seal(%d, %d %d, %d bytes): %d bytes, %d", id, p.Kind, p.Next, len(p.Body), len(b), e)
	}
	return b
}

// refused holds that bytes are told as no page, with an error.
func refused(t *testing.T, id int, b string, want api.Errno) {
	t.Helper()
	if p, e := Open(id, b); e != want || p != (api.Page{}) {
		t.Errorf("Open(%d, %q): %v, %d, not %d", id, b, p, e, want)
	}
}

// opened holds that bytes are told as a page.
func opened(t *testing.T, id int, b string, want api.Page) {
	t.Helper()
	if p, e := Open(id, b); e != api.OK || p != want {
		t.Errorf("Open(%d, %q): %v, %d, not %v", id, b, p, e, want)
	}
}

func TestP401SealLaysEachField(t *testing.T) {
	p := api.Page{Kind: 2, Next: 0x0a0b0c0d, Body: "body"}
	want := filled("\x02" + "\x04\x03\x02\x01" + "\x0d\x0c\x0b\x0a" + "\x04\x00" + "body")
	if b := mustSeal(t, 0x01020304, p); b != want {
		t.Errorf("%q, not %q", b, want)
	}
	if b := mustSeal(t, 0, api.Page{Kind: 1}); b != filled("\x01") {
		t.Errorf("the least page: %q", b)
	}
}

func TestP401SealAtItsLimits(t *testing.T) {
	full := strings.Repeat("\xff", api.Body)
	want := summed(strings.Repeat("\xff", 9) + "\xf0\x00" + full + "\x00")
	if b := mustSeal(t, most, api.Page{Kind: 255, Next: most, Body: full}); b != want {
		t.Errorf("the greatest page: %q", b)
	}
	for n := range api.Body + 1 {
		size, _ := num.Fix(n, 2)
		want := filled("\x03" + "\x07\x00\x00\x00" + "\x00\x00\x00\x00" + size + full[:n])
		if b := mustSeal(t, 7, api.Page{Kind: 3, Body: full[:n]}); b != want {
			t.Errorf("a body of %d: %q", n, b)
		}
	}
}

func TestP401SealRefuses(t *testing.T) {
	long := zeros(api.Body + 1)
	great := zeros(1 << 16) // its length would not stand in two bytes
	low, high := -1<<63, 1<<63-1
	cases := []struct {
		id   int
		p    api.Page
		want api.Errno
	}{
		{-1, api.Page{Kind: 1}, api.ErrArg},
		{low, api.Page{Kind: 1}, api.ErrArg},
		{most + 1, api.Page{Kind: 1}, api.ErrArg},
		{high, api.Page{Kind: 1}, api.ErrArg},
		{0, api.Page{Kind: 1, Next: -1}, api.ErrArg},
		{0, api.Page{Kind: 1, Next: low}, api.ErrArg},
		{0, api.Page{Kind: 1, Next: most + 1}, api.ErrArg},
		{0, api.Page{Kind: 1, Next: high}, api.ErrArg},
		{0, api.Page{}, api.ErrArg},
		{0, api.Page{Kind: -1}, api.ErrArg},
		{0, api.Page{Kind: 256}, api.ErrArg},
		{0, api.Page{Kind: low}, api.ErrArg},
		{0, api.Page{Kind: 1, Body: long}, api.ErrLong},
		{0, api.Page{Kind: 1, Body: great}, api.ErrLong},
		{-1, api.Page{Kind: 1, Body: long}, api.ErrArg},
		{0, api.Page{Kind: 1, Next: -1, Body: long}, api.ErrArg},
		{0, api.Page{Kind: 0, Body: long}, api.ErrArg},
		{0, api.Page{Kind: 256, Body: great}, api.ErrArg},
	}
	for i, c := range cases {
		if b, e := Seal(c.id, c.p); b != "" || e != c.want {
			t.Errorf("%d: %q, %d, not %d", i, b, e, c.want)
		}
	}
}

func TestP401OpenShort(t *testing.T) {
	b := mustSeal(t, 7, api.Page{Kind: 2, Body: "x"})
	for n := range api.PageSize {
		refused(t, 7, b[:n], api.ErrShort)
	}
	refused(t, 7, b+"\x00", api.ErrShort)
	refused(t, 7, b+b, api.ErrShort)
	refused(t, 8, b[1:], api.ErrShort) // ahead of ErrSum and ErrForm
}

func TestP401OpenSum(t *testing.T) {
	refused(t, 0, zeros(api.PageSize), api.ErrSum)
	b := mustSeal(t, 7, api.Page{Kind: 2, Body: "x"})
	refused(t, 8, b[:255]+string([]byte{b[255] ^ 1}), api.ErrSum) // ahead of ErrForm
	refused(t, 7, "\x00"+b[1:], api.ErrSum)
}

func TestP401OpenForm(t *testing.T) {
	b := mustSeal(t, 7, api.Page{Kind: 2, Body: "x"})
	for _, id := range []int{8, 0, -1, 7 + 1<<32, 7 - 1<<32, -7, 1<<63 - 1, -1 << 63} {
		refused(t, id, b, api.ErrForm)
	}
	head := "\x02" + "\x07\x00\x00\x00" + "\x09\x00\x00\x00"
	refused(t, 7, filled("\x00"+head[1:]+"\x01\x00x"), api.ErrForm)
	for _, size := range []string{"\xf1\x00", "\x00\x01", "\x01\x01", "\xff\xff"} {
		refused(t, 7, filled(head+size), api.ErrForm)
	}
	for _, size := range []int{0, 1, 100, 239, 240} {
		two, _ := num.Fix(size, 2)
		whole := head + two + strings.Repeat("y", size)
		opened(t, 7, filled(whole), api.Page{Kind: 2, Next: 9, Body: strings.Repeat("y", size)})
		for n := len(whole); n < 252; n++ {
			refused(t, 7, filled(whole+zeros(n-len(whole))+"\x01"), api.ErrForm)
		}
	}
	opened(t, 7, filled(head+"\x03\x00"), api.Page{Kind: 2, Next: 9, Body: zeros(3)})
}

func TestP402OpenOfSealIsThePage(t *testing.T) {
	d := dice(402)
	for range 2000 {
		id, p := d.roll(1<<31), api.Page{Kind: 1 + d.roll(255), Next: d.roll(1 << 31), Body: d.text(d.roll(api.Body + 1))}
		if d.roll(2) == 0 {
			id, p.Next = most-id, most-p.Next
		}
		b := mustSeal(t, id, p)
		opened(t, id, b, p)
		opened(t, id, b, p) // the bytes stand as they were
	}
	opened(t, 0, mustSeal(t, 0, api.Page{Kind: 1}), api.Page{Kind: 1})
	for _, kind := range []int{api.PageMeta, api.PageLeaf, api.PageBranch, api.PageOver, api.PageFree, 255} {
		p := api.Page{Kind: kind, Next: most, Body: zeros(api.Body)}
		opened(t, most, mustSeal(t, most, p), p)
	}
}

func TestP402OneByteChangedIsErrSum(t *testing.T) {
	d := dice(4)
	b := mustSeal(t, 7, api.Page{Kind: 2, Next: 9, Body: d.text(200)})
	for at := range len(b) {
		for x := 1; x < 256; x++ {
			refused(t, 7, b[:at]+string([]byte{b[at] ^ byte(x)})+b[at+1:], api.ErrSum)
		}
	}
}

// Bytes that are opened are those that Seal lays: each page has one form.
func TestP402SealOfOpenIsTheBytes(t *testing.T) {
	d := dice(2)
	whole := 0
	for range 20000 {
		b := []byte(zeros(252))
		copy(b, "\x02\x07\x00\x00\x00\x09\x00\x00\x00\x05\x00hello")
		for range d.roll(3) {
			b[d.roll(20)] = byte(d.roll(256))
		}
		if d.roll(4) == 0 {
			b[d.roll(252)] = byte(d.roll(2))
		}
		s := summed(string(b))
		p, e := Open(7, s)
		if e != api.OK {
			continue
		}
		whole++
		if again := mustSeal(t, 7, p); again != s {
			t.Fatalf("%q, not %q", again, s)
		}
	}
	if whole < 1000 {
		t.Errorf("%d only were pages", whole)
	}
}
