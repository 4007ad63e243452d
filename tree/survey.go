package tree

import (
	"arboretum/api"
	"arboretum/over"
	"arboretum/pager"
)

// bounds are where the keys below a page lie: from one on, below another one (empty: without an end).
type bounds struct{ from, to string }

// of tells the bounds of the child at i.
func (b bounds) of(l []api.Child, i int) bounds {
	if i > 0 {
		b.from = l[i].Key
	}
	if i+1 < len(l) {
		b.to = l[i+1].Key
	}
	return b
}

// hold tells whether a leaf's keys, which rise, lie within them.
func (b bounds) hold(l []api.Item) bool {
	if len(l) == 0 {
		return true
	}
	return l[0].Key >= b.from && (b.to == "" || l[len(l)-1].Key < b.to)
}

// survey is what is met on a walk through all of a tree.
type survey struct {
	pager  *pager.Pager
	met    map[int]struct{} // pages, those of chains too
	height int              // 0 till a leaf is met
	keys   int
}

// look walks through all of a tree.
func look(p *pager.Pager, root int) (*survey, api.Errno) {
	s := &survey{pager: p, met: map[int]struct{}{}}
	return s, s.walk(root, 1, bounds{})
}

// walk walks through what stands from a page on, so many levels down.
func (s *survey) walk(id, level int, b bounds) api.Errno {
	n, e := load(s.pager, id, level)
	if e != api.OK {
		return e
	}
	if !s.meet(id) || !s.alike(n, level) {
		return api.ErrCorrupt
	}
	if n.isLeaf() {
		s.height = level
		return s.leaf(n.items, b)
	}
	for i, x := range n.children {
		if e := s.walk(x.Page, level+1, b.of(n.children, i)); e != api.OK {
			return e
		}
	}
	return api.OK
}

// leaf walks through a leaf's items, and their chains.
func (s *survey) leaf(l []api.Item, b bounds) api.Errno {
	if !b.hold(l) {
		return api.ErrCorrupt
	}
	s.keys += len(l)
	for _, x := range l {
		if x.Over == 0 {
			continue
		}
		chain, e := over.Pages(s.pager, x.Over, x.Size)
		if e != api.OK {
			return e
		}
		if !s.meet(chain...) {
			return api.ErrCorrupt
		}
	}
	return api.OK
}

// alike tells whether a node may stand on that level: leaves stand on one level, and branches above it.
func (s *survey) alike(n node, level int) bool {
	return s.height == 0 || n.isLeaf() == (level == s.height)
}

// meet tells whether none of some pages was met yet: each one of a tree, and each chain, stands in one place.
func (s *survey) meet(ids ...int) bool {
	for _, id := range ids {
		if _, is := s.met[id]; is {
			return false
		}
		s.met[id] = struct{}{}
	}
	return true
}
