package leaf

import (
	"slices"
	"strings"

	"arboretum/api"
)

// Find tells a key's place.
func Find(l []api.Item, key string) (int, bool) {
	return slices.BinarySearchFunc(l, key, func(x api.Item, key string) int {
		return strings.Compare(x.Key, key)
	})
}

// Set puts an item in.
func Set(l []api.Item, x api.Item) []api.Item {
	i, is := Find(l, x.Key)
	behind := i
	if is {
		behind++
	}
	return copied(l[:i], []api.Item{x}, l[behind:])
}

// Del takes a key out.
func Del(l []api.Item, key string) []api.Item {
	i, is := Find(l, key)
	if !is {
		return copied(l)
	}
	return copied(l[:i], l[i+1:])
}

// Split tells two parts.
func Split(l []api.Item) ([]api.Item, []api.Item) {
	n := half(l)
	return copied(l[:n]), copied(l[n:])
}

// half is how many items the first part of a Split has.
func half(l []api.Item) int {
	if len(l) < 2 {
		return len(l)
	}
	all := Size(l...)
	ahead, least, best := 0, all+1, 0
	for i, x := range l[:len(l)-1] {
		ahead += Size(x)
		if greater := max(ahead, all-ahead); greater < least {
			least, best = greater, i+1
		}
	}
	return best
}

// copied tells the items of some lists in one of their own, which shares nothing with them.
func copied(parts ...[]api.Item) []api.Item {
	l := slices.Concat(parts...)
	for i := range l {
		l[i].Key, l[i].Value = strings.Clone(l[i].Key), strings.Clone(l[i].Value)
	}
	return l
}
