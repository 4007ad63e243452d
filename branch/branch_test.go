package branch

import (
	"encoding/binary"
	"slices"
	"strings"
	"testing"

	"arboretum/api"
)

const (
	low  = -1 << 63
	high = 1<<63 - 1
	page = 1<<32 - 1 // the greatest number of a page
)

// dice is a short rule that strews numbers.
type dice uint64

func (d *dice) roll(n int) int {
	*d = *d*6364136223846793005 + 1442695040888963407
	return int(uint64(*d>>33) % uint64(n))
}

// text tells so many bytes.
func (d *dice) text(n int) string {
	b := make([]byte, n)
	for i := range b {
		b[i] = byte(d.roll(256))
	}
	return string(b)
}

// page tells the number of a page, a small or a great one.
func (d *dice) page() int { return 2 + d.roll(page-1)>>d.roll(32) }

// any tells a child that may have everything.
func (d *dice) any() api.Child {
	return at(d.text(d.roll(90)), (d.roll(9999)-5000)<<d.roll(40))
}

// children tells right children of a branch, n at least 1.
func (d *dice) children(n int) []api.Child {
	here := map[string]int{"": d.page()}
	for len(here) < n {
		here[d.text(1+d.roll(1+d.roll(40)))] = d.page()
	}
	return sorted(here)
}

// sorted tells the children of a map in the order of their keys.
func sorted(here map[string]int) []api.Child {
	var keys []string
	for key := range here {
		keys = append(keys, key)
	}
	slices.Sort(keys)
	var l []api.Child
	for _, key := range keys {
		l = append(l, at(key, here[key]))
	}
	return l
}

func at(key string, page int) api.Child { return api.Child{Key: key, Page: page} }

// bytesOf lays children by another hand than the program's.
func bytesOf(l ...api.Child) string {
	var b []byte
	for _, x := range l {
		b = append(binary.AppendVarint(b, int64(len(x.Key))), x.Key...)
		b = binary.AppendVarint(b, int64(x.Page))
	}
	return string(b)
}

// laid looks at children that are taken, and back at their bytes.
func laid(t *testing.T, l ...api.Child) {
	t.Helper()
	want := bytesOf(l...)
	if b, e := Put(l...); b != want || e != api.OK {
		t.Errorf("Put(%#v): %#v, %d, not %#v", l, b, e, want)
	}
	if back, e := Get(want); !slices.Equal(back, l) || e != api.OK {
		t.Errorf("Get(%#v): %#v, %d, not %#v", want, back, e, l)
	}
	if !Fits(l...) {
		t.Errorf("%#v do not fit", l)
	}
}

// refused looks at children that are not taken, and at bytes of them that nobody lays.
func refused(t *testing.T, want api.Errno, l ...api.Child) {
	t.Helper()
	if b, e := Put(l...); b != "" || e != want {
		t.Errorf("Put(%#v): %#v, %d, not %d", l, b, e, want)
	}
	if Fits(l...) {
		t.Errorf("%#v fit", l)
	}
	formless(t, bytesOf(l...))
}

// formless looks at bytes that Put lays of nothing.
func formless(t *testing.T, b string) {
	t.Helper()
	if l, e := Get(b); len(l) != 0 || e != api.ErrForm {
		t.Errorf("Get(%#v): %#v, %d", b, l, e)
	}
}

func TestP901Bytes(t *testing.T) {
	for _, c := range []struct {
		l    []api.Child
		want string
	}{
		{[]api.Child{at("", 2)}, "\x00\x04"},
		{[]api.Child{at("", 2), at("m", 3)}, "\x00\x04" + "\x02m\x06"},
		{[]api.Child{at("", 64), at("\x00", 63), at("\x00\x00", 300)}, "\x00\x80\x01" + "\x02\x00\x7e" + "\x04\x00\x00\xd8\x04"},
		{[]api.Child{at("", page)}, "\x00\xfe\xff\xff\xff\x1f"},
	} {
		laid(t, c.l...)
		if b, e := Put(c.l...); b != c.want || e != api.OK {
			t.Errorf("Put(%#v): %#v, %d, not %#v", c.l, b, e, c.want)
		}
		if n := Size(c.l...); n != len(c.want) {
			t.Errorf("Size(%#v): %d, not %d", c.l, n, len(c.want))
		}
	}
}

func TestP901None(t *testing.T) {
	refused(t, api.ErrArg)
	refused(t, api.ErrArg, []api.Child{}...)
	if n := Size(); n != 0 {
		t.Error(n)
	}
}

func TestP901Pages(t *testing.T) {
	for _, n := range []int{2, 3, 63, 64, 1 << 31, page - 1, page} {
		laid(t, at("", n))
		laid(t, at("", n), at("m", n)) // whose pages they are, is nothing to a branch
	}
	for _, n := range []int{1, 0, -1, -2, low, page + 1, page + 3, high} {
		refused(t, api.ErrArg, at("", n))
		refused(t, api.ErrArg, at("", n), at("m", 2))
		refused(t, api.ErrArg, at("", 2), at("m", n))
		refused(t, api.ErrArg, at("", 2), at("m", n), at("n", 2))
	}
}

func TestP901Keys(t *testing.T) {
	k40 := strings.Repeat("k", 40)
	laid(t, at("", 2), at(k40, 3))
	laid(t, at("", 9), at("a", 3), at("aa", 2), at("ab", 4), at("b", 4))
	laid(t, at("", 2), at("\x00", 3), at("\x7f", 4), at("\x80", 5), at("\xff", 6), at("\xff\x00", 7))
	for _, keys := range [][]string{
		{"a"}, {"\x00"}, {k40 + "k"}, // the first one's is not empty
		{"a", "b"}, {"a", ""}, {"\x00", "a"},
		{"", ""}, {"", "", "a"}, {"", "a", ""},
		{"", "b", "a"}, {"", "a", "a"}, {"", "aa", "a"}, {"", "\x80", "\x7f"}, {"", "a", "c", "b"}, {"", "a", "b", "b"}, {"", "b", "c", "a"},
		{"", k40 + "k"}, {"", "a", k40 + "k", "z"}, {"", strings.Repeat("k", 5000)},
	} {
		var l []api.Child
		for i, key := range keys {
			l = append(l, at(key, 2+i))
		}
		refused(t, api.ErrArg, l...)
	}
}

func TestP901Long(t *testing.T) {
	key := func(c byte, n int) string { return string([]byte{c}) + strings.Repeat("k", n-1) }
	five := []api.Child{at("", 2)} // 2 bytes, and 42 of each further one
	for i := range 5 {
		five = append(five, at(key(byte('a'+i), 40), 3))
	}
	laid(t, append(five, at(key('f', 26), 3))...)
	laid(t, append(five, at(key('f', 25), 64))...)
	laid(t, append(five, at(key('f', 22), page))...)
	refused(t, api.ErrLong, append(five, at(key('f', 27), 3))...)
	refused(t, api.ErrLong, append(five, at(key('f', 26), 64))...)
	refused(t, api.ErrLong, append(five, at(key('f', 23), page))...)
	refused(t, api.ErrArg, append(five, at(key('f', 40), 3), at("f", 3))...) // too long too, but ErrArg is named first
	refused(t, api.ErrArg, append(five, at(key('f', 40), 1))...)
	refused(t, api.ErrArg, append(five, at(key('f', 40), page+1))...)
	l := []api.Child{at("", 2)}
	for i := range 300 {
		l = append(l, at(string([]byte{byte(i/256 + 1), byte(i)}), 5))
		if 2+4*(len(l)-1) <= api.Body {
			laid(t, l...)
		} else {
			refused(t, api.ErrLong, l...)
		}
	}
}

func TestP901Formless(t *testing.T) {
	for _, b := range []string{
		"x", "\x00", "\x00\x84", "\x04\x00", "\x80", "\x00\x04x", "\x00\x04\x02m", "\x00\x04\x02", "\x00\x04\x04m\x06",
		"\x00\x00", "\x00\x02", "\x00\x03", "\x00\x80\x80\x80\x80\x20", // no page
		"\x01\x04", "\x00\x04\x01\x04", // lengths below 0
		"\x80\x00\x04", "\x00\x84\x00", "\x00\x04\x82\x00m\x06", "\x00\x04\x02m\x86\x00", // not as few bytes as it takes
		"\x00" + strings.Repeat("\xff", 9) + "\x02",
		"\x00\x04\x00", "\x00\x04\x00\x06", "\x00\x04\x02b\x06\x02a\x08",
		strings.Repeat("\x00\x04", api.Body/2), strings.Repeat("\x00", 5000),
	} {
		formless(t, b)
	}
	whole := bytesOf(at("", 2), at("a", 300), at("bcd", 3))
	ends := []int{2, 6, len(whole)} // behind which children
	for i := range whole {
		if !slices.Contains(ends, i) {
			formless(t, whole[:i])
		}
	}
}

// Whatever bytes are read without an error are those that Put lays.
func TestP901JustWhatPutLays(t *testing.T) {
	var d dice = 901
	taken := 0
	for range 20000 {
		b := []byte(bytesOf(d.children(1 + d.roll(4))...))
		for range d.roll(3) {
			b[d.roll(len(b))] = byte(d.roll(130))
		}
		l, e := Get(string(b))
		if e != api.OK {
			formless(t, string(b))
			continue
		}
		taken++
		if back, e := Put(l...); back != string(b) || e != api.OK || bytesOf(l...) != string(b) {
			t.Fatalf("Get(%#v): %#v, of which Put lays %#v, %d", b, l, back, e)
		}
	}
	if taken < 2000 || taken > 18000 {
		t.Error(taken)
	}
}

func TestP901Size(t *testing.T) {
	var d dice = 902
	for range 3000 {
		var l []api.Child
		for range d.roll(6) {
			l = append(l, d.any())
		}
		if n := Size(l...); n != len(bytesOf(l...)) {
			t.Errorf("Size(%#v): %d, not %d", l, n, len(bytesOf(l...)))
		}
	}
	great := strings.Repeat("x", 1<<20)
	if n := Size(api.Child{}, at(great, low), at("", high), at("ab", -1)); n != 2+4+len(great)+10+1+10+3+1 {
		t.Error(n)
	}
}

func TestP901Fits(t *testing.T) {
	var d dice = 903
	fit := 0
	for range 3000 {
		l := d.children(1 + d.roll(20))
		if d.roll(4) == 0 {
			l = append(l, d.any())
		}
		_, e := Put(l...)
		if Fits(l...) != (e == api.OK) {
			t.Errorf("Fits(%#v): %v, but Put answers %d", l, Fits(l...), e)
		}
		if e == api.OK {
			fit++
		}
	}
	if fit < 500 || fit > 2500 {
		t.Error(fit)
	}
}

func TestP901NotChanged(t *testing.T) {
	whole := []api.Child{at("", 2), at("b", 3), at("c", 4), at("spare", 5)}
	l := slices.Clone(whole)
	Put(l[:2]...)
	Size(l[:2]...)
	Fits(l[:2]...)
	if !slices.Equal(l, whole) {
		t.Errorf("%#v", l)
	}
	b := bytesOf(whole...)
	one, _ := Get(b)
	two, _ := Get(b)
	one[0].Key = "changed"
	_ = append(one[:1], at("z", 9))
	if !slices.Equal(two, whole) {
		t.Errorf("%#v", two)
	}
}
