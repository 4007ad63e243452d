package num

import (
	"strings"
	"testing"

	"arboretum/api"
)

const (
	least    = -1 << 63
	greatest = 1<<63 - 1
)

// numbers are the edges of all widths, of both signs.
func numbers() []int {
	l := []int{0, least, greatest}
	for i := range 63 {
		p := 1 << i
		l = append(l, p-1, p, p+1, -p+1, -p, -p-1)
	}
	return l
}

// rising calls f with numbers that a short rule strews over all widths.
func rising(f func(v int)) {
	x := uint64(1)
	for i := range 5000 {
		x = x*6364136223846793005 + 1442695040888963407
		f(int(x) >> (i % 64))
	}
}

func TestP101Fix(t *testing.T) {
	for _, c := range []struct {
		v, n int
		want string
		err  api.Errno
	}{
		{0, 1, "\x00", api.OK},
		{255, 1, "\xff", api.OK},
		{258, 2, "\x02\x01", api.OK},
		{1, 3, "\x01\x00\x00", api.OK},
		{0x04030201, 4, "\x01\x02\x03\x04", api.OK},
		{0x07060504030201, 7, "\x01\x02\x03\x04\x05\x06\x07", api.OK},
		{0, 0, "", api.ErrArg},
		{0, 8, "", api.ErrArg},
		{0, -1, "", api.ErrArg},
		{0, least, "", api.ErrArg},
		{0, greatest, "", api.ErrArg},
		{-1, 1, "", api.ErrArg},
		{-1, 7, "", api.ErrArg},
		{least, 7, "", api.ErrArg},
		{greatest, 7, "", api.ErrArg},
	} {
		if s, e := Fix(c.v, c.n); s != c.want || e != c.err {
			t.Errorf("Fix(%d, %d): %q, %d", c.v, c.n, s, e)
		}
	}
	for n := 1; n <= 7; n++ {
		top := 1 << (8 * n)
		if s, e := Fix(top-1, n); s != strings.Repeat("\xff", n) || e != api.OK {
			t.Errorf("the greatest of %d bytes: %q, %d", n, s, e)
		}
		if s, e := Fix(top, n); s != "" || e != api.ErrArg {
			t.Errorf("one above %d bytes: %q, %d", n, s, e)
		}
	}
}

func TestP101Unfix(t *testing.T) {
	for _, c := range []struct {
		b     string
		at, n int
		want  int
		err   api.Errno
	}{
		{"\x02\x01", 0, 2, 258, api.OK},
		{"x\x02\x01y", 1, 2, 258, api.OK},
		{"xy\xff", 2, 1, 255, api.OK},
		{"\x01\x02\x03\x04\x05\x06\x07", 0, 7, 0x07060504030201, api.OK},
		{"\xff\xff\xff\xff\xff\xff\xff", 0, 7, 1<<56 - 1, api.OK},
		{"abc", 0, 0, 0, api.ErrArg},
		{"abcdefghi", 0, 8, 0, api.ErrArg},
		{"abc", 0, -1, 0, api.ErrArg},
		{"abc", 0, least, 0, api.ErrArg},
		{"abc", 0, greatest, 0, api.ErrArg},
		{"abc", -1, 1, 0, api.ErrArg},
		{"abc", least, 7, 0, api.ErrArg},
		{"", -1, 7, 0, api.ErrArg}, // too few bytes too, but ErrArg is named first
		{"abc", greatest, 8, 0, api.ErrArg},
		{"", 0, 1, 0, api.ErrShort},
		{"abc", 2, 2, 0, api.ErrShort},
		{"abc", 3, 1, 0, api.ErrShort},
		{"abc", 4, 1, 0, api.ErrShort},
		{"abc", greatest, 7, 0, api.ErrShort},
	} {
		if v, e := Unfix(c.b, c.at, c.n); v != c.want || e != c.err {
			t.Errorf("Unfix(%q, %d, %d): %d, %d", c.b, c.at, c.n, v, e)
		}
	}
}

func TestP102Var(t *testing.T) {
	for _, c := range []struct {
		l    []int
		want string
	}{
		{nil, ""},
		{[]int{0}, "\x00"},
		{[]int{-1}, "\x01"},
		{[]int{1}, "\x02"},
		{[]int{63, -64}, "\x7e\x7f"},
		{[]int{64, -65}, "\x80\x01\x81\x01"},
		{[]int{0, -1, 64}, "\x00\x01\x80\x01"},
		{[]int{8191, 8192}, "\xfe\x7f\x80\x80\x01"},
		{[]int{greatest}, "\xfe\xff\xff\xff\xff\xff\xff\xff\xff\x01"},
		{[]int{least}, "\xff\xff\xff\xff\xff\xff\xff\xff\xff\x01"},
	} {
		if s := Var(c.l...); s != c.want {
			t.Errorf("Var(%d): %q, not %q", c.l, s, c.want)
		}
	}
	one := []int{5, 6, 7}
	if Var(one[:1]...); one[1] != 6 || one[2] != 7 {
		t.Error("the spare room was written to")
	}
}

func TestP102Text(t *testing.T) {
	long := strings.Repeat("x", 64)
	for _, c := range []struct {
		l    []string
		want string
	}{
		{nil, ""},
		{[]string{""}, "\x00"},
		{[]string{"A", "", "bc"}, "\x02A\x00\x04bc"},
		{[]string{"\x00\xff"}, "\x04\x00\xff"},
		{[]string{"é"}, "\x04\xc3\xa9"},
		{[]string{long[1:]}, "\x7e" + long[1:]},
		{[]string{long}, "\x80\x01" + long},
	} {
		if s := Text(c.l...); s != c.want {
			t.Errorf("Text(%q): %q, not %q", c.l, s, c.want)
		}
	}
}

func TestP102Bool(t *testing.T) {
	if Bool(true) != "\x01" || Bool(false) != "\x00" {
		t.Error(Bool(true), Bool(false))
	}
}

// sum takes the document's steps word by word.
func sum(s string) int {
	x := 1<<32 - 1
	for i := range len(s) {
		x ^= int(s[i])
		for range 8 {
			odd := x%2 == 1
			x /= 2
			if odd {
				x ^= 0xedb88320
			}
		}
	}
	return 1<<32 - 1 - x
}

func TestP103Crc(t *testing.T) {
	for _, c := range []struct {
		l    []string
		want int
	}{
		{nil, 0},
		{[]string{""}, 0},
		{[]string{"123456789"}, 0xcbf43926},
		{[]string{"", "1234", "", "56789", ""}, 0xcbf43926},
		{[]string{"a"}, 0xe8b7be43},
		{[]string{"\x00"}, 0xd202ef8d},
		{[]string{"\xff\xff\xff\xff"}, 0xffffffff},
	} {
		if x := Crc(c.l...); x != c.want {
			t.Errorf("Crc(%q): %#x, not %#x", c.l, x, c.want)
		}
	}
	s := ""
	for i := range 300 {
		s += string([]byte{byte(i * 37)})
		if Crc(s) != sum(s) || Crc(s[:i/2], s[i/2:]) != sum(s) {
			t.Fatalf("Crc(%q): %#x, not %#x", s, Crc(s), sum(s))
		}
	}
}

// stopped says whether r stays at an error and answers nothing any more.
func stopped(r *Reader, e api.Errno) bool {
	for range 2 {
		if r.Var() != 0 || r.Text(9) != "" || r.Count(9) != 0 || r.Bool() || r.Err() != e || r.End() != e {
			return false
		}
	}
	return true
}

func TestP104Var(t *testing.T) {
	nine, zeros := strings.Repeat("\xff", 9), strings.Repeat("\x80", 9)
	for _, c := range []struct {
		b    string
		want int
		err  api.Errno
	}{
		{"\x00", 0, api.OK},
		{"\x01", -1, api.OK},
		{"\x80\x01", 64, api.OK},
		{zeros + "\x01", 1 << 62, api.OK},
		{"\xfe" + nine[1:] + "\x01", greatest, api.OK},
		{nine + "\x01", least, api.OK},
		{"", 0, api.ErrShort},
		{"\x80", 0, api.ErrShort},
		{nine, 0, api.ErrShort},
		{"\x80\x00", 0, api.ErrForm},
		{"\x81\x80\x00", 0, api.ErrForm},
		{nine + "\x00", 0, api.ErrForm},
		{nine + "\x02", 0, api.ErrForm},
		{nine + "\x80", 0, api.ErrForm},
		{nine + "\x81", 0, api.ErrForm},
		{nine + "\x81\x00", 0, api.ErrForm},
		{zeros + "\x80\x80\x01", 0, api.ErrForm},
	} {
		r := NewReader(c.b)
		if v := r.Var(); v != c.want || r.Err() != c.err || r.End() != c.err {
			t.Errorf("Var of %q: %d, %d, %d", c.b, v, r.Err(), r.End())
		}
		if c.err != api.OK && !stopped(r, c.err) {
			t.Errorf("%q: the error does not stay", c.b)
		}
	}
}

func TestP104Count(t *testing.T) {
	for _, c := range []struct {
		b          string
		most, want int
		err        api.Errno
	}{
		{"\x00", 0, 0, api.OK},
		{"\x0a", 5, 5, api.OK},
		{"\x0a", greatest, 5, api.OK},
		{"\x0c", 5, 0, api.ErrLong},
		{"\x00", -1, 0, api.ErrLong},
		{"\x00", least, 0, api.ErrLong},
		{"\x01", 5, 0, api.ErrForm},
		{"\x01", -5, 0, api.ErrForm}, // above most too, but ErrForm is named first
		{"", 5, 0, api.ErrShort},
		{"\x8a", 5, 0, api.ErrShort},
		{"\x8a\x00", 5, 0, api.ErrForm},
	} {
		r := NewReader(c.b)
		if v := r.Count(c.most); v != c.want || r.Err() != c.err || r.End() != c.err {
			t.Errorf("Count(%d) of %q: %d, %d, %d", c.most, c.b, v, r.Err(), r.End())
		}
		if c.err != api.OK && !stopped(r, c.err) {
			t.Errorf("%q: the error does not stay", c.b)
		}
	}
}

func TestP104Text(t *testing.T) {
	for _, c := range []struct {
		b    string
		most int
		want string
		err  api.Errno
	}{
		{"\x00", 0, "", api.OK},
		{"\x04ab", 2, "ab", api.OK},
		{"\x04ab", greatest, "ab", api.OK},
		{"\x04ab", 1, "", api.ErrLong},
		{"\x04a", 1, "", api.ErrLong}, // too few bytes too, but ErrLong is named first
		{"\x00", -1, "", api.ErrLong},
		{"\x04a", 2, "", api.ErrShort},
		{"\x02", 2, "", api.ErrShort},
		{Var(greatest) + "ab", greatest, "", api.ErrShort},
		{"\x03ab", 2, "", api.ErrForm},
		{"\x84\x00ab", 2, "", api.ErrForm},
		{"", 2, "", api.ErrShort},
	} {
		r := NewReader(c.b)
		if s := r.Text(c.most); s != c.want || r.Err() != c.err || r.End() != c.err {
			t.Errorf("Text(%d) of %q: %q, %d, %d", c.most, c.b, s, r.Err(), r.End())
		}
		if c.err != api.OK && !stopped(r, c.err) {
			t.Errorf("%q: the error does not stay", c.b)
		}
	}
}

func TestP104Bool(t *testing.T) {
	r := NewReader("\x01\x00")
	if a, b := r.Bool(), r.Bool(); !a || b || r.End() != api.OK {
		t.Error(a, b, r.End())
	}
	if r.Bool() || !stopped(r, api.ErrShort) {
		t.Error("no byte is left")
	}
	for c := 2; c < 256; c++ {
		if r := NewReader(string([]byte{byte(c), 1})); r.Bool() || !stopped(r, api.ErrForm) {
			t.Error(c)
		}
	}
}

func TestP104Order(t *testing.T) {
	r := NewReader("\x02\x04ab\x06\x01x")
	if v, s, n := r.Var(), r.Text(5), r.Count(3); v != 1 || s != "ab" || n != 3 {
		t.Error(v, s, n)
	}
	if e := r.End(); e != api.ErrForm || r.Err() != api.OK {
		t.Error("bytes are left", e, r.Err())
	}
	if !r.Bool() || r.Err() != api.OK {
		t.Error("End's ErrForm stayed")
	}
	if r.Bool() || r.Text(9) != "" || r.Err() != api.ErrForm {
		t.Error("x is no truth", r.Err())
	}
	if NewReader("").End() != api.OK || NewReader("x").End() != api.ErrForm {
		t.Error("End at the beginning")
	}
	a, b := NewReader("\x02"), NewReader("\x04")
	if a.Var() != 1 || b.Var() != 2 {
		t.Error("two readers are one")
	}
}

func TestP105Digits(t *testing.T) {
	for _, c := range []struct {
		v    int
		want string
	}{
		{0, "0"}, {7, "7"}, {10, "10"}, {-50, "-50"},
		{greatest, "9223372036854775807"}, {least, "-9223372036854775808"},
	} {
		if s := Digits(c.v); s != c.want {
			t.Errorf("Digits(%d): %q", c.v, s)
		}
	}
}

func TestP105Number(t *testing.T) {
	nines := strings.Repeat("9", 18)
	for _, c := range []struct {
		s    string
		want int
	}{
		{"0", 0}, {"7", 7}, {"-7", -7}, {"10", 10}, {"-100", -100}, {"1234567890", 1234567890},
		{nines, 999999999999999999}, {"-" + nines, -999999999999999999},
	} {
		if v, e := Number(c.s); v != c.want || e != api.OK {
			t.Errorf("Number(%q): %d, %d", c.s, v, e)
		}
	}
	for _, s := range []string{
		"", "-", "--1", "-0", "00", "01", "-01", "+1", " 1", "1 ", "1-", "1.", "1_0", "0x1", "/", ":", "1/", "1:", "1\x00", "١",
		"1" + strings.Repeat("0", 18), "-1" + strings.Repeat("0", 18), strings.Repeat("9", 40),
	} {
		if v, e := Number(s); v != 0 || e != api.ErrArg {
			t.Errorf("Number(%q): %d, %d", s, v, e)
		}
	}
}

// back reads what was laid of v and s, and says whether it is as it was.
func back(v int, s string) bool {
	r := NewReader(Var(v) + Text(s) + Bool(v > 0))
	if r.Var() != v || r.Text(len(s)) != s || r.Bool() != (v > 0) || r.End() != api.OK {
		return false
	}
	if n, e := Number(Digits(v)); len(Digits(v)) <= 18 && (n != v || e != api.OK) {
		return false
	}
	for n := range 9 {
		if b, e := Fix(v, n); e == api.OK {
			if x, e := Unfix("ab"+b+"c", 2, n); x != v || e != api.OK {
				return false
			}
		}
	}
	return true
}

func TestP106Back(t *testing.T) {
	for _, v := range numbers() {
		if !back(v, Digits(v)) {
			t.Error(v)
		}
	}
	rising(func(v int) {
		if !back(v, Var(v)) {
			t.Error(v)
		}
	})
}

// laid says whether bytes that are read as numbers are those that Var lays.
func laid(b string) bool {
	r := NewReader(b)
	var l []int
	for r.End() == api.ErrForm && r.Err() == api.OK {
		l = append(l, r.Var())
	}
	return r.Err() != api.OK || Var(l...) == b
}

func TestP106Laid(t *testing.T) {
	for i := range 1 << 16 {
		if b := string([]byte{byte(i), byte(i >> 8)}); !laid(b) {
			t.Errorf("%q", b)
		}
	}
	for end := range 256 {
		for ahead := range 11 {
			for _, c := range []byte{0x80, 0x81, 0xff} {
				b := strings.Repeat(string([]byte{c}), ahead) + string([]byte{byte(end)})
				if !laid(b) {
					t.Errorf("%q", b)
				}
			}
		}
	}
}

func TestP106None(t *testing.T) {
	var none *Reader
	if !stopped(none, api.ErrArg) {
		t.Error("a nil reader")
	}
	var zero Reader
	if zero.Err() != api.OK || zero.End() != api.OK {
		t.Error("a zero reader", zero.Err(), zero.End())
	}
	for _, f := range []func(r *Reader){
		func(r *Reader) { r.Var() },
		func(r *Reader) { r.Text(9) },
		func(r *Reader) { r.Count(9) },
		func(r *Reader) { r.Bool() },
	} {
		var r Reader
		if f(&r); !stopped(&r, api.ErrShort) {
			t.Error("a zero reader", r.Err())
		}
	}
}

func BenchmarkCrc(b *testing.B) {
	s := strings.Repeat("x", api.PageSize)
	for range b.N {
		Crc(s)
	}
}
