package cairn

import (
	"cairn/api"
	"cairn/block"
	"cairn/body"
	"cairn/change"
	"cairn/tree"
)

// root is where a disk's tree begins, and the greatest number that was given on the disk. It is read anew by each call: what is on the disk is never out of date.
type root struct {
	tree   int
	number int
}

func readRoot(r change.Reader) root {
	p := block.Page(r.Read(block.RootAt))
	return root{tree: p.Link(), number: block.Number(p.Items())}
}

func (r root) write(c *change.Change) {
	p := block.New(block.Root)
	p.SetLink(r.tree)
	block.SetNumber(p.Grow(1), r.number)
	c.Write(block.RootAt, p)
}

// add gives a key a new version, and tells its number.
func (s *Store) add(key string, bytes []byte) (int, api.Errno) {
	c := change.Begin(s.disk)
	r := readRoot(c)
	r.number++
	e := tree.Entry{Place: tree.Place{Key: key, Number: r.number}, Size: len(bytes), At: body.Write(c, bytes)}
	r.tree = tree.Insert(c, r.tree, e)
	r.write(c)
	if errno := s.commit(c); errno != api.OK {
		return 0, errno
	}
	return r.number, api.OK
}

// commit ends a change. A store whose disk died is shut: only Open knows what came of it.
func (s *Store) commit(c *change.Change) api.Errno {
	if c.Full() {
		return api.ErrSpace
	}
	if !c.Commit() {
		s.disk = nil
		return api.ErrDead
	}
	return api.OK
}

// first gives the first version at a place or behind it.
func (s *Store) first(from tree.Place) (tree.Entry, bool) {
	for e := range tree.Walk(s.disk, readRoot(s.disk).tree, from) {
		return e, true
	}
	return tree.Entry{}, false
}

// body gives the bytes of a version's body, in memory of their own.
func (s *Store) body(e tree.Entry) []byte {
	bytes := make([]byte, 0, e.Size)
	for piece := range body.Walk(s.disk, e.At) {
		bytes = append(bytes, piece...)
	}
	return bytes
}
