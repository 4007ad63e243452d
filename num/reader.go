package num

import (
	"strings"

	"arboretum/api"
)

// Reader reads things from the front of its bytes on, till a first error, which stays.
type Reader struct {
	rest string
	err  api.Errno
}

// NewReader makes a reader.
func NewReader(b string) *Reader { return &Reader{rest: b} }

// Var reads a number.
func (r *Reader) Var() int {
	if r.Err() != api.OK {
		return 0
	}
	u, n, e := groups(r.rest)
	if e != api.OK {
		r.err = e
		return 0
	}
	r.rest = r.rest[n:]
	return signed(u)
}

// Text reads a text.
func (r *Reader) Text(most int) string {
	n := r.Count(most)
	if r.Err() != api.OK {
		return ""
	}
	if n > len(r.rest) {
		r.err = api.ErrShort
		return ""
	}
	s := strings.Clone(r.rest[:n]) // an answer shares no memory with what was handed in
	r.rest = r.rest[n:]
	return s
}

// Count reads how many there are.
func (r *Reader) Count(most int) int {
	n := r.Var()
	if r.Err() != api.OK {
		return 0
	}
	if n < 0 {
		r.err = api.ErrForm
		return 0
	}
	if n > most {
		r.err = api.ErrLong
		return 0
	}
	return n
}

// Bool reads a truth.
func (r *Reader) Bool() bool {
	if r.Err() != api.OK {
		return false
	}
	if r.rest == "" {
		r.err = api.ErrShort
		return false
	}
	c := r.rest[0]
	if c > 1 {
		r.err = api.ErrForm
		return false
	}
	r.rest = r.rest[1:]
	return c == 1
}

// Err tells the first error.
func (r *Reader) Err() api.Errno {
	if r == nil {
		return api.ErrArg
	}
	return r.err
}

// End tells whether all was read.
func (r *Reader) End() api.Errno {
	e := r.Err()
	if e == api.OK && r.rest != "" {
		return api.ErrForm
	}
	return e
}
