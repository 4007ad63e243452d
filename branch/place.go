package branch

import (
	"slices"
	"strings"

	"arboretum/api"
)

// Find tells the place of the child below which a key stands.
func Find(l []api.Child, key string) int {
	above, _ := slices.BinarySearchFunc(l, key, func(x api.Child, key string) int {
		if x.Key <= key {
			return -1 // an equal one too: what is searched is the first one above
		}
		return 1
	})
	return max(above-1, 0)
}

// Replace puts children in the place of one.
func Replace(l []api.Child, i int, x ...api.Child) []api.Child {
	if i < 0 || i >= len(l) {
		return copied(l)
	}
	all := copied(l[:i], x, l[i+1:])
	if len(all) > 0 {
		all[0].Key = ""
	}
	return all
}

// Split tells two parts.
func Split(l []api.Child) ([]api.Child, []api.Child) {
	n := half(l)
	return copied(l[:n]), copied(l[n:])
}

// half is how many children the first part of a Split has.
func half(l []api.Child) int {
	if len(l) < 2 {
		return len(l)
	}
	all := Size(l...)
	ahead, least, best := 0, all+1, 0
	for i, x := range l[:len(l)-1] {
		ahead += Size(x)
		if greater := max(ahead, all-ahead); greater < least {
			least, best = greater, i+1
		}
	}
	return best
}

// copied tells the children of some lists in one of their own, which shares nothing with them.
func copied(parts ...[]api.Child) []api.Child {
	l := slices.Concat(parts...)
	for i := range l {
		l[i].Key = strings.Clone(l[i].Key)
	}
	return l
}
