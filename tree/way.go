package tree

import (
	"arboretum/api"
	"arboretum/branch"
	"arboretum/leaf"
	"arboretum/pager"
)

// step is a branch on a way down, and the place of the child to which the way goes on.
type step struct {
	page     int
	children []api.Child
	place    int
}

// with tells the branch's children with others in the place of that one; none of them: that one fell away.
func (s step) with(kids []api.Child) []api.Child {
	if len(kids) > 0 {
		kids[0].Key = s.children[s.place].Key
	}
	return branch.Replace(s.children, s.place, kids...)
}

// way is the way down to the leaf in which a key stands, or would stand.
type way struct {
	steps []step // from the root on
	page  int    // the leaf
	items []api.Item
}

// down goes the way to a key.
func down(p *pager.Pager, root int, key string) (way, api.Errno) {
	var steps []step
	id := root
	for level := 1; ; level++ { // load tells of no branch at the last level
		n, e := load(p, id, level)
		if e != api.OK {
			return way{}, e
		}
		if n.isLeaf() {
			return way{steps, id, n.items}, api.OK
		}
		place := branch.Find(n.children, key)
		steps = append(steps, step{id, n.children, place})
		id = n.children[place].Page
	}
}

// item tells what stands in the leaf of a key.
func (w way) item(key string) (api.Item, bool) {
	i, is := leaf.Find(w.items, key)
	if !is {
		return api.Item{}, false
	}
	return w.items[i], true
}
