package tree

import (
	"iter"

	"cairn/block"
	"cairn/change"
)

// Walk goes over the versions below a root (0: there are none), in their order, from a place on.
func Walk(r change.Reader, root int, from Place) iter.Seq[Entry] {
	return func(yield func(Entry) bool) {
		if root != 0 {
			walk(r, root, from, yield)
		}
	}
}

// walk tells whether to go on.
func walk(r change.Reader, at int, from Place, yield func(Entry) bool) bool {
	n := load(r, at)
	if n.kind == block.Branch {
		for _, child := range n.entries[n.child(from):] {
			if !walk(r, child.At, from, yield) {
				return false
			}
		}
		return true
	}
	for _, e := range n.entries[n.from(from):] {
		if !yield(e) {
			return false
		}
	}
	return true
}
