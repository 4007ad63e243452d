package pager

import "arboretum/api"

// fate is what became of a page here; 0: nothing.
type fate int

const (
	made    fate = iota + 1
	dropped      // an elder state has it
	unmade       // made, and dropped
)

// change is a page's fate, and its content, if it was made.
type change struct {
	fate fate
	page api.Page
}
