package num

import "arboretum/api"

const (
	groupBits = 7
	more      = 1 << groupBits // stands in each group but a number's last one
	mostGroup = 10             // groups that 64 bits take
)

// Var tells numbers in as few bytes as it takes.
func Var(l ...int) string {
	var b []byte
	for _, v := range l {
		b = addVar(b, v)
	}
	return string(b)
}

// Text tells texts with their lengths.
func Text(l ...string) string {
	var b []byte
	for _, s := range l {
		b = append(addVar(b, len(s)), s...)
	}
	return string(b)
}

// Bool tells a truth as a byte.
func Bool(v bool) string {
	if v {
		return "\x01"
	}
	return "\x00"
}

func addVar(b []byte, v int) []byte {
	u := unsigned(v)
	for u >= more {
		b = append(b, byte(u)|more)
		u >>= groupBits
	}
	return append(b, byte(u))
}

// unsigned is 2v, or -2v - 1 of a v below 0: small numbers stay short, whatever their sign.
func unsigned(v int) uint64 {
	if v < 0 {
		return ^(uint64(v) << 1)
	}
	return uint64(v) << 1
}

// signed undoes unsigned.
func signed(u uint64) int {
	if u&1 == 1 {
		return ^int(u >> 1)
	}
	return int(u >> 1)
}

// groups reads the groups of one number from the front of b, and tells how many they are.
func groups(b string) (uint64, int, api.Errno) {
	var u uint64
	for i := 0; i < len(b); i++ {
		c := b[i]
		if i == mostGroup-1 && c > 1 { // past 64 bits: only one is left, and no group may follow
			return 0, 0, api.ErrForm
		}
		u |= uint64(c&^more) << (groupBits * i)
		if c >= more {
			continue
		}
		if c == 0 && i > 0 { // not as few bytes as it takes
			return 0, 0, api.ErrForm
		}
		return u, i + 1, api.OK
	}
	return 0, 0, api.ErrShort
}
