// Package num lays numbers and texts into bytes, and sums them.
package num

import (
	"strconv"

	"arboretum/api"
)

const (
	mostFixed  = 7  // an eighth byte would reach the sign of an int
	mostDigits = 18 // a nineteenth digit could pass the greatest int
)

// Fix tells a number in so many bytes.
func Fix(v, n int) (string, api.Errno) {
	if n < 1 || n > mostFixed || v < 0 || v>>(8*n) != 0 {
		return "", api.ErrArg
	}
	b := make([]byte, n)
	for i := range b {
		b[i] = byte(v >> (8 * i))
	}
	return string(b), api.OK
}

// Unfix tells the number of some bytes.
func Unfix(b string, at, n int) (int, api.Errno) {
	if n < 1 || n > mostFixed || at < 0 {
		return 0, api.ErrArg
	}
	if len(b)-at < n { // at + n might pass the greatest int
		return 0, api.ErrShort
	}
	v := 0
	for i := range n {
		v |= int(b[at+i]) << (8 * i)
	}
	return v, api.OK
}

// Digits tells an int in digits.
func Digits(v int) string { return strconv.Itoa(v) }

// Number tells the int of digits.
func Number(s string) (int, api.Errno) {
	if s == "0" {
		return 0, api.OK
	}
	minus := len(s) > 0 && s[0] == '-'
	if minus {
		s = s[1:]
	}
	if len(s) < 1 || len(s) > mostDigits || s[0] == '0' {
		return 0, api.ErrArg
	}
	v := 0
	for i := range len(s) {
		if s[i] < '0' || s[i] > '9' {
			return 0, api.ErrArg
		}
		v = 10*v + int(s[i]-'0')
	}
	if minus {
		v = -v
	}
	return v, api.OK
}
