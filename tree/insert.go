package tree

import (
	"slices"

	"cairn/block"
	"cairn/change"
)

// Insert takes a version into the tree of a root (0: a tree of none), and gives the root from then on.
func Insert(c *change.Change, root int, e Entry) int {
	if root == 0 {
		return plant(c, node{block.Leaf, []Entry{e}})
	}
	sibling, split := insert(c, root, e)
	if !split {
		return root
	}
	return plant(c, node{block.Branch, []Entry{{At: root}, sibling}})
}

// insert takes a version in below a node; where the node had to be split, its new sibling behind it comes out.
func insert(c *change.Change, at int, e Entry) (Entry, bool) {
	n := load(c, at)
	i := n.from(e.Place)
	if n.kind == block.Branch {
		child := n.child(e.Place)
		sibling, split := insert(c, n.entries[child].At, e)
		if !split {
			return Entry{}, false
		}
		i, e = child+1, sibling
	}
	n.entries = slices.Insert(n.entries, i, e)
	if len(n.entries) <= n.kind.Room() {
		n.save(c, at)
		return Entry{}, false
	}
	return n.split(c, at), true
}

// split keeps one half of a node where it was, and the other as its new sibling.
func (n node) split(c *change.Change, at int) Entry {
	sibling := c.Take()
	return Entry{Place: n.halve(c, at, sibling), At: sibling}
}

// halve keeps the halves of a node in two blocks, and tells where the second one begins.
func (n node) halve(c *change.Change, leftAt, rightAt int) Place {
	half := len(n.entries) / 2
	left, right := node{n.kind, n.entries[:half]}, node{n.kind, n.entries[half:]}
	left.save(c, leftAt)
	right.save(c, rightAt)
	return right.entries[0].Place
}

// plant keeps a new node, and tells where.
func plant(c *change.Change, n node) int {
	at := c.Take()
	n.save(c, at)
	return at
}
