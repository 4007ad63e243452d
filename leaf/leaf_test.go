package leaf

import (
	"encoding/binary"
	"slices"
	"strings"
	"testing"

	"arboretum/api"
)

const (
	low  = -1 << 63
	high = 1<<63 - 1
	page = 1<<32 - 1 // the greatest number of a page
)

// dice is a short rule that strews numbers.
type dice uint64

func (d *dice) roll(n int) int {
	*d = *d*6364136223846793005 + 1442695040888963407
	return int(uint64(*d>>33) % uint64(n))
}

// text tells so many bytes.
func (d *dice) text(n int) string {
	b := make([]byte, n)
	for i := range b {
		b[i] = byte(d.roll(256))
	}
	return string(b)
}

// right tells a right item of a key.
func (d *dice) right(key string) api.Item {
	if d.roll(4) == 0 {
		return far(key, 1+d.roll(page), 61+d.roll(1940))
	}
	return in(key, d.text(d.roll(61)))
}

// any tells an item that may have everything.
func (d *dice) any() api.Item {
	return api.Item{Key: d.text(d.roll(90)), Value: d.text(d.roll(90)), Over: d.roll(3) * (d.roll(9999) - 5000), Size: d.roll(9999) - 5000}
}

// items tells right items whose keys rise.
func (d *dice) items(n int) []api.Item {
	here := map[string]api.Item{}
	for len(here) < n {
		key := d.text(1 + d.roll(1+d.roll(40)))
		here[key] = d.right(key)
	}
	return sorted(here)
}

// sorted tells the items of a map in the order of their keys.
func sorted(here map[string]api.Item) []api.Item {
	var keys []string
	for key := range here {
		keys = append(keys, key)
	}
	slices.Sort(keys)
	var l []api.Item
	for _, key := range keys {
		l = append(l, here[key])
	}
	return l
}

// in is an item whose value stands in the leaf, far one whose value stands elsewhere.
func in(key, value string) api.Item           { return api.Item{Key: key, Value: value} }
func far(key string, over, size int) api.Item { return api.Item{Key: key, Over: over, Size: size} }

// bytesOf lays items by another hand than the program's.
func bytesOf(l ...api.Item) string {
	var b []byte
	text := func(s string) { b = append(binary.AppendVarint(b, int64(len(s))), s...) }
	for _, x := range l {
		text(x.Key)
		if x.Over == 0 {
			b = append(b, 0)
			text(x.Value)
			continue
		}
		b = append(b, 1)
		b = binary.AppendVarint(binary.AppendVarint(b, int64(x.Over)), int64(x.Size))
	}
	return string(b)
}

// laid looks at items that are taken, and back at their bytes.
func laid(t *testing.T, l ...api.Item) {
	t.Helper()
	want := bytesOf(l...)
	if b, e := Put(l...); b != want || e != api.OK {
		t.Errorf("Put(%#v): %#v, %d, not %#v", l, b, e, want)
	}
	if back, e := Get(want); !slices.Equal(back, l) || e != api.OK {
		t.Errorf("Get(%#v): %#v, %d, not %#v", want, back, e, l)
	}
	if !Fits(l...) {
		t.Errorf("%#v do not fit", l)
	}
}

// refused looks at items that are not taken, and at bytes of them that nobody lays.
func refused(t *testing.T, want api.Errno, l ...api.Item) {
	t.Helper()
	if b, e := Put(l...); b != "" || e != want {
		t.Errorf("Put(%#v): %#v, %d, not %d", l, b, e, want)
	}
	if Fits(l...) {
		t.Errorf("%#v fit", l)
	}
	if back, e := Get(bytesOf(l...)); len(back) != 0 || e != api.ErrForm {
		t.Errorf("Get of %#v: %#v, %d", l, back, e)
	}
}

// formless looks at bytes that Put lays of nothing.
func formless(t *testing.T, b string) {
	t.Helper()
	if l, e := Get(b); len(l) != 0 || e != api.ErrForm {
		t.Errorf("Get(%#v): %#v, %d", b, l, e)
	}
}

func TestP801Bytes(t *testing.T) {
	for _, c := range []struct {
		l    []api.Item
		want string
	}{
		{nil, ""},
		{[]api.Item{}, ""},
		{[]api.Item{in("a", "")}, "\x02a\x00\x00"},
		{[]api.Item{in("a", "1"), far("b", 300, 61)}, "\x02a\x00\x021" + "\x02b\x01\xd8\x04\x7a"},
		{[]api.Item{far("\x00", 1, 2000), in("\x00\x00", "\x00\xff")}, "\x02\x00\x01\x02\xa0\x1f" + "\x04\x00\x00\x00\x04\x00\xff"},
		{[]api.Item{far("z", page, 64)}, "\x02z\x01\xfe\xff\xff\xff\x1f\x80\x01"},
	} {
		if b, e := Put(c.l...); b != c.want || e != api.OK {
			t.Errorf("Put(%#v): %#v, %d, not %#v", c.l, b, e, c.want)
		}
		if l, e := Get(c.want); !slices.Equal(l, c.l) || e != api.OK {
			t.Errorf("Get(%#v): %#v, %d", c.want, l, e)
		}
		if n := Size(c.l...); n != len(c.want) {
			t.Errorf("Size(%#v): %d, not %d", c.l, n, len(c.want))
		}
	}
}

func TestP801RightItems(t *testing.T) {
	k40, v60 := strings.Repeat("k", 40), strings.Repeat("v", 60)
	for _, x := range []api.Item{
		in("a", ""), in("\x00", "1"), in(k40, v60), in("a", v60), in("\xff", "\xff"),
		far("a", 1, 61), far("a", page, 61), far("a", 1, 2000), far(k40, page, 2000), far("a", 2, 100),
	} {
		laid(t, x)
	}
	for _, x := range []api.Item{
		{}, in("", "1"), far("", 1, 61), in(k40+"k", "1"), far(k40+"k", 1, 61), in(strings.Repeat("k", 5000), "1"),
		in("a", v60+"v"), in("a", strings.Repeat("v", 5000)),
		far("a", -1, 61), far("a", low, 61), far("a", page+1, 61), far("a", high, 61),
		far("a", 1, 60), far("a", 1, 0), far("a", 1, -61), far("a", 1, low), far("a", 1, 2001), far("a", 1, high),
	} {
		refused(t, api.ErrArg, x)
		refused(t, api.ErrArg, in("A", ""), x)
		refused(t, api.ErrArg, x, in("z", ""))
	}
	for _, x := range []api.Item{ // what has no bytes of its own: both kinds at once
		{Key: "a", Size: 1}, {Key: "a", Size: 61}, {Key: "a", Size: -1}, {Key: "a", Value: "1", Size: low},
		{Key: "a", Value: "x", Over: 1, Size: 61}, {Key: "a", Value: v60 + "v", Over: 1, Size: 61},
	} {
		if b, e := Put(x); b != "" || e != api.ErrArg || Fits(x) {
			t.Errorf("Put(%#v): %#v, %d", x, b, e)
		}
	}
}

func TestP801KeysRise(t *testing.T) {
	laid(t, in("a", ""), in("aa", ""), in("ab", ""), in("b", ""))
	laid(t, in("\x00", ""), in("\x7f", ""), in("\x80", ""), in("\xff", ""), in("\xff\x00", ""))
	refused(t, api.ErrArg, in("b", ""), in("a", ""))
	refused(t, api.ErrArg, in("a", "1"), in("a", "2"))
	refused(t, api.ErrArg, in("aa", ""), in("a", ""))
	refused(t, api.ErrArg, in("\x80", ""), in("\x7f", ""))
	refused(t, api.ErrArg, in("a", ""), in("c", ""), in("b", ""))
	refused(t, api.ErrArg, in("a", ""), in("b", ""), far("b", 1, 61))
	refused(t, api.ErrArg, in("b", ""), in("c", ""), in("a", ""))
}

func TestP801Long(t *testing.T) {
	v60 := strings.Repeat("v", 60)
	three := []api.Item{in("a", v60), in("b", v60), in("c", v60)} // 64 bytes each
	laid(t, append(three, in("d", v60[:44]))...)
	refused(t, api.ErrLong, append(three, in("d", v60[:45]))...)
	laid(t, append(three, in("d", v60[:36]), far("e", 1, 61))...)
	refused(t, api.ErrLong, append(three, in("d", v60[:37]), in("e", ""), in("f", ""))...)
	refused(t, api.ErrArg, append(three, in("d", v60), in("d", ""))...) // too long too, but ErrArg is named first
	refused(t, api.ErrArg, append(three, in("d", v60), in("", ""))...)
	var l []api.Item
	for i := range 300 {
		key := string([]byte{byte(i/256 + 1), byte(i)})
		if l = append(l, in(key, "")); 5*len(l) <= api.Body {
			laid(t, l...)
		} else {
			refused(t, api.ErrLong, l...)
		}
	}
}

func TestP801Formless(t *testing.T) {
	for _, b := range []string{
		"x", "\x02", "\x02a", "\x02a\x00", "\x02a\x00\x02", "\x02a\x01", "\x02a\x01\x02", "\x04a", "\x80", "\x00",
		"\x02a\x02\x00", "\x02a\xff\x00", // neither true nor false
		"\x02a\x01\x00\x00", "\x02a\x01\x00\x7a", // elsewhere, but on no page
		"\x02a\x01\x01\x7a", "\x02a\x01\x02\x79", "\x02a\x01\x02\x78", // a number below 0, a small value elsewhere
		"\x00\x00\x00", "\x01\x00\x00", "\x02a\x00\x01", // no key, lengths below 0
		"\x82\x00a\x00\x00", "\x02a\x00\x80\x00", "\x02a\x01\x82\x00\x7a", "\x02a\x01\x02\xfa\x00", // not as few bytes as it takes
		"\x02a\x01" + strings.Repeat("\xff", 9) + "\x02\x7a",
		"\x02b\x00\x00\x02a\x00\x00", "\x02a\x00\x00\x02a\x00\x00",
		"\x02a\x00\x00\x00", "\x02a\x00\x00x",
		strings.Repeat("\x00", api.Body), strings.Repeat("\x00", 5000),
	} {
		formless(t, b)
	}
	whole := bytesOf(in("a", "12"), far("b", 300, 61), in("c", ""))
	ends := []int{0, 6, 12, len(whole)} // behind which items
	for i := range whole {
		if !slices.Contains(ends, i) {
			formless(t, whole[:i])
		}
	}
}

// Whatever bytes are read without an error are those that Put lays.
func TestP801JustWhatPutLays(t *testing.T) {
	var d dice = 801
	taken := 0
	for range 20000 {
		b := []byte(bytesOf(d.items(1 + d.roll(4))...))
		for range d.roll(3) {
			b[d.roll(len(b))] = byte(d.roll(130))
		}
		l, e := Get(string(b))
		if e != api.OK {
			formless(t, string(b))
			continue
		}
		taken++
		if back, e := Put(l...); back != string(b) || e != api.OK || bytesOf(l...) != string(b) {
			t.Fatalf("Get(%#v): %#v, of which Put lays %#v, %d", b, l, back, e)
		}
	}
	if taken < 2000 || taken > 18000 {
		t.Error(taken)
	}
}

func TestP801Size(t *testing.T) {
	var d dice = 802
	for range 3000 {
		var l []api.Item
		for range d.roll(6) {
			l = append(l, d.any())
		}
		if n := Size(l...); n != len(bytesOf(l...)) {
			t.Errorf("Size(%#v): %d, not %d", l, n, len(bytesOf(l...)))
		}
	}
	great := strings.Repeat("x", 1<<20)
	if n := Size(api.Item{}, in("", great), far(great, low, high)); n != 3+2+4+len(great)+4+len(great)+1+20 {
		t.Error(n)
	}
	if n := Size(api.Item{Value: great, Over: 1}, api.Item{Size: high}); n != 4+3 { // the one has no value, the other no size
		t.Error(n)
	}
}

func TestP801Fits(t *testing.T) {
	var d dice = 803
	for range 3000 {
		l := d.items(d.roll(9))
		if d.roll(4) == 0 {
			l = append(l, d.any())
		}
		if _, e := Put(l...); Fits(l...) != (e == api.OK) {
			t.Errorf("Fits(%#v): %v, but Put answers %d", l, Fits(l...), e)
		}
	}
	if !Fits() {
		t.Error("no items do not fit")
	}
}

func TestP801NotChanged(t *testing.T) {
	whole := []api.Item{in("a", "1"), far("b", 3, 61), in("c", "3"), in("d", "4")}
	l := slices.Clone(whole)
	Put(l[:2]...)
	Size(l[:2]...)
	Fits(l[:2]...)
	if !slices.Equal(l, whole) {
		t.Errorf("%#v", l)
	}
	b := bytesOf(whole...)
	one, _ := Get(b)
	two, _ := Get(b)
	one[0].Key = "changed"
	_ = append(one[:1], in("z", ""))
	if !slices.Equal(two, whole) {
		t.Errorf("%#v", two)
	}
}
