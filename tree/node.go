package tree

import (
	"arboretum/api"
	"arboretum/branch"
	"arboretum/leaf"
	"arboretum/pager"
)

const mostHeight = 30 // of a tree

// node is what stands in a page: a leaf's items, or a branch's children, of which there is one at least.
type node struct {
	items    []api.Item
	children []api.Child
}

func (n node) isLeaf() bool { return len(n.children) == 0 }

// load tells what stands in a page so many levels down a tree (1: its root), if the page by itself may stand there.
func load(p *pager.Pager, id, level int) (node, api.Errno) {
	x, e := p.Read(id)
	if e != api.OK {
		return node{}, e
	}
	n, ok := open(x)
	if !ok || x.Next != 0 || !n.mayStand(level) {
		return node{}, api.ErrCorrupt
	}
	return n, api.OK
}

// open tells what stands in a page's body; false, if it is none of a tree.
func open(x api.Page) (node, bool) {
	switch x.Kind {
	case api.PageLeaf:
		l, e := leaf.Get(x.Body)
		return node{items: l}, e == api.OK
	case api.PageBranch:
		l, e := branch.Get(x.Body)
		return node{children: l}, e == api.OK
	}
	return node{}, false
}

// mayStand tells whether there may be such a node so many levels down: only a root has no item, one child is too few
// for a root, and below the last level there is nothing.
func (n node) mayStand(level int) bool {
	isRoot := level == 1
	if n.isLeaf() {
		return isRoot || len(n.items) > 0
	}
	return level < mostHeight && (!isRoot || len(n.children) > 1)
}
