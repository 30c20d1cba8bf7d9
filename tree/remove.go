package tree

import (
	"slices"

	"cairn/block"
	"cairn/change"
)

// Remove takes the version at a place out of the tree of a root, and gives the root from then on (0: a tree of none) and the version; false: there is none at the place, and nothing was done. It needs no room: it takes no block.
func Remove(c *change.Change, root int, p Place) (int, Entry, bool) {
	if root == 0 {
		return root, Entry{}, false
	}
	e, scant, ok := remove(c, root, p)
	if scant {
		root = lower(c, root)
	}
	return root, e, ok
}

// remove takes a version out below a node, and tells it, whether the node is scant then, and whether there was such a version.
func remove(c *change.Change, at int, p Place) (e Entry, scant, ok bool) {
	n := load(c, at)
	if n.kind == block.Branch {
		child := n.child(p)
		e, scant, ok = remove(c, n.entries[child].At, p)
		if !scant {
			return e, false, ok
		}
		n = n.mend(c, child)
	} else {
		i := n.from(p)
		if i == len(n.entries) || n.entries[i].Place != p {
			return Entry{}, false, false
		}
		e = n.entries[i]
		n.entries = slices.Delete(n.entries, i, i+1)
	}
	n.save(c, at)
	return e, n.scant(), true
}

// scant tells whether a node has fewer entries than a node has that was split.
func (n node) scant() bool { return len(n.entries) < (n.kind.Room()+1)/2 }

// mend makes one of a child that is scant and its neighbour, or two of which none is scant, and gives the branch as it is then.
func (n node) mend(c *change.Change, child int) node {
	right := max(child, 1)
	leftAt, rightAt := n.entries[right-1].At, n.entries[right].At
	both := load(c, leftAt)
	both.entries = append(both.entries, load(c, rightAt).entries...)
	if len(both.entries) <= both.kind.Room() {
		both.save(c, leftAt)
		c.Free(rightAt)
		n.entries = slices.Delete(n.entries, right, right+1)
		return n
	}
	n.entries[right].Place = both.halve(c, leftAt, rightAt)
	return n
}

// lower gives the root of a tree whose root is scant: a leaf of none and a branch of one are not needed.
func lower(c *change.Change, root int) int {
	n := load(c, root)
	switch {
	case len(n.entries) == 0:
		c.Free(root)
		return 0
	case n.kind == block.Branch && len(n.entries) == 1:
		c.Free(root)
		return n.entries[0].At
	}
	return root
}
