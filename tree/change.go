package tree

import (
	"slices"

	"arboretum/api"
	"arboretum/branch"
	"arboretum/leaf"
	"arboretum/over"
	"arboretum/pager"
)

// change makes what is new in a tree, from its leaf up. Nothing is dropped ahead of its end, since no Drop can be taken back.
type change struct {
	pager *pager.Pager
	made  []int // only the new tree has them
	old   []int // only the old tree has them
}

// end drops the pages of the tree that isn't to be: with an error of the new one, else of the old one.
func (c *change) end(root int, e api.Errno) (int, api.Errno) {
	if e != api.OK {
		dropAll(c.pager, c.made)
		return 0, e
	}
	dropAll(c.pager, c.old)
	return root, api.OK
}

// put makes the tree in which a key has a value; its root.
func (c *change) put(root int, key, value string) (int, api.Errno) {
	w, e := down(c.pager, root, key)
	if e != api.OK {
		return 0, e
	}
	if e := c.leave(w, key); e != api.OK {
		return 0, e
	}
	x, e := c.item(key, value)
	if e != api.OK {
		return 0, e
	}
	kids, e := c.leaves(leaf.Set(w.items, x))
	if e != api.OK {
		return 0, e
	}
	return c.up(w.steps, kids)
}

// del makes the tree without a key; its root.
func (c *change) del(root int, key string) (int, api.Errno) {
	w, e := down(c.pager, root, key)
	if e != api.OK {
		return 0, e
	}
	if _, is := w.item(key); !is {
		return 0, api.ErrNone
	}
	if e := c.leave(w, key); e != api.OK {
		return 0, e
	}
	var kids []api.Child
	items := leaf.Del(w.items, key)
	if isRoot := len(w.steps) == 0; isRoot || len(items) > 0 {
		if kids, e = c.leaves(items); e != api.OK {
			return 0, e
		}
	}
	return c.up(w.steps, kids)
}

// leave says that the new tree won't have the pages of a way, nor the chain of the value at its end.
func (c *change) leave(w way, key string) api.Errno {
	for _, s := range w.steps {
		c.old = append(c.old, s.page)
	}
	c.old = append(c.old, w.page)
	x, _ := w.item(key)
	if x.Over == 0 {
		return api.OK
	}
	chain, e := over.Pages(c.pager, x.Over, x.Size)
	c.old = append(c.old, chain...)
	return e
}

// item makes the item of a key and its value.
func (c *change) item(key, value string) (api.Item, api.Errno) {
	if len(value) <= api.MaxInline {
		return api.Item{Key: key, Value: value}, api.OK
	}
	first, e := over.Put(c.pager, value)
	if e != api.OK {
		return api.Item{}, e
	}
	chain, e := over.Pages(c.pager, first, len(value))
	c.made = append(c.made, chain...)
	return api.Item{Key: key, Over: first, Size: len(value)}, e
}

// up walks a way up again: in each branch there is something else in the place of one child now. The new root.
func (c *change) up(steps []step, kids []api.Child) (int, api.Errno) {
	for i, s := range slices.Backward(steps) {
		l := s.with(kids)
		if i == 0 && len(l) == 1 { // what is left was never on the way: a root has two at least
			return c.giveWay(l[0].Page)
		}
		var e api.Errno
		if kids, e = c.branches(l); e != api.OK {
			return 0, e
		}
	}
	return c.top(kids, len(steps)+1)
}

// top puts new branches above what became of a root so many levels above the leaves, till it is one page.
func (c *change) top(kids []api.Child, height int) (int, api.Errno) {
	for ; len(kids) > 1; height++ {
		if height == mostHeight { // nobody could read it
			return 0, api.ErrCorrupt
		}
		var e api.Errno
		if kids, e = c.branches(kids); e != api.OK {
			return 0, e
		}
	}
	return kids[0].Page, api.OK
}

// giveWay tells the new root if the old one has no child but this one.
func (c *change) giveWay(id int) (int, api.Errno) {
	for level := 2; ; level++ { // load tells of no branch at the last level
		n, e := load(c.pager, id, level)
		if e != api.OK {
			return 0, e
		}
		if slices.Contains(c.old, id) { // a page at two places of a tree: it would be dropped, and be the root
			return 0, api.ErrCorrupt
		}
		if len(n.children) != 1 {
			return id, api.OK
		}
		c.old = append(c.old, id)
		id = n.children[0].Page
	}
}

// leaves makes leaves of items: what stands for them in the branch above. (The first one's key is left to that branch.)
func (c *change) leaves(items []api.Item) ([]api.Child, api.Errno) {
	var kids []api.Child
	for i, part := range parts(items, leaf.Fits, leaf.Split) {
		body, e := leaf.Put(part...)
		id, e := c.page(api.PageLeaf, body, e)
		if e != api.OK {
			return nil, e
		}
		kid := api.Child{Page: id}
		if i > 0 {
			kid.Key = part[0].Key
		}
		kids = append(kids, kid)
	}
	return kids, api.OK
}

// branches makes branches of children, as leaves does; none of none.
func (c *change) branches(l []api.Child) ([]api.Child, api.Errno) {
	if len(l) == 0 {
		return nil, api.OK
	}
	var kids []api.Child
	for _, part := range parts(l, fit, branch.Split) {
		body, e := branch.Put(keyless(part)...)
		id, e := c.page(api.PageBranch, body, e)
		if e != api.OK {
			return nil, e
		}
		kids = append(kids, api.Child{Key: part[0].Key, Page: id})
	}
	return kids, api.OK
}

// page makes a page of a body that was laid with that error: keys that stood beyond their bounds can't be laid in order.
func (c *change) page(kind int, body string, laid api.Errno) (int, api.Errno) {
	if laid != api.OK {
		return 0, api.ErrCorrupt
	}
	id, e := c.pager.Make(api.Page{Kind: kind, Body: body})
	if e != api.OK {
		return 0, e
	}
	c.made = append(c.made, id)
	return id, api.OK
}

// parts splits a list as often as it takes till each part goes into a page.
func parts[T any](l []T, fits func(...T) bool, split func([]T) ([]T, []T)) [][]T {
	if len(l) < 2 || fits(l...) {
		return [][]T{l}
	}
	a, b := split(l)
	return append(parts(a, fits, split), parts(b, fits, split)...)
}

// fit tells whether children go into one branch, whatever their keys.
func fit(l ...api.Child) bool { return branch.Size(keyless(l)...) <= api.Body }

// keyless tells children as a branch has them: the first one without its key.
func keyless(l []api.Child) []api.Child { return branch.Replace(l, 0, l[0]) }
