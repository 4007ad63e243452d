package free

import (
	"slices"
	"strings"

	"arboretum/api"
	"arboretum/num"
)

const (
	pageBytes = 4
	inBody    = api.Body / pageBytes // numbers of a full body
)

// Chain tells the bodies of pages that hold numbers.
func Chain(pages []int) ([]string, api.Errno) {
	var bodies []string
	for part := range slices.Chunk(pages, inBody) {
		body, e := lay(part)
		if e != api.OK {
			return nil, e
		}
		bodies = append(bodies, body)
	}
	return bodies, api.OK
}

// Unchain tells the numbers of such bodies.
func Unchain(bodies ...string) ([]int, api.Errno) {
	var pages []int
	for _, body := range bodies {
		if len(body)%pageBytes != 0 {
			return nil, api.ErrForm
		}
		for at := 0; at < len(body); at += pageBytes {
			page, _ := num.Unfix(body, at, pageBytes) // no number is cut off
			pages = append(pages, page)
		}
	}
	return pages, api.OK
}

// lay tells the body of some numbers.
func lay(pages []int) (string, api.Errno) {
	var body strings.Builder
	for _, page := range pages {
		b, e := num.Fix(page, pageBytes)
		if e != api.OK {
			return "", e
		}
		body.WriteString(b)
	}
	return body.String(), api.OK
}
