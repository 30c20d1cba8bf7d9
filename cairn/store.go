package cairn

import (
	"iter"
	"math"
	"strings"

	"cairn/api"
	"cairn/block"
	"cairn/body"
	"cairn/change"
	"cairn/tree"
)

// root is where a disk's tree begins, and the greatest number that was given on the disk. It is read anew by each call: what is on the disk is never out of date.
type root struct {
	tree   int
	number int
}

func readRoot(r change.Reader) root {
	p := block.Page(r.Read(block.RootAt))
	return root{tree: p.Link(), number: block.Number(p.Items())}
}

func (r root) write(c *change.Change) {
	p := block.New(block.Root)
	p.SetLink(r.tree)
	block.SetNumber(p.Grow(1), r.number)
	c.Write(block.RootAt, p)
}

// add gives a key a new version of some bytes, or a marker of none, and tells its number.
func (s *Store) add(key string, bytes []byte, marker bool) (int, api.Errno) {
	c := change.Begin(s.disk)
	r := readRoot(c)
	r.number++
	e := tree.Entry{Place: tree.Place{Key: key, Number: r.number}, Marker: marker, Size: len(bytes), At: body.Write(c, bytes)}
	r.tree = tree.Insert(c, r.tree, e)
	r.write(c)
	if errno := s.commit(c); errno != api.OK {
		return 0, errno
	}
	return r.number, api.OK
}

// remove takes a version away. The greatest number that was given stays: it is not given again.
func (s *Store) remove(place tree.Place) api.Errno {
	c := change.Begin(s.disk)
	r := readRoot(c)
	top, e, ok := tree.Remove(c, r.tree, place)
	if !ok {
		return api.ErrNone
	}
	body.Free(c, e.At)
	r.tree = top
	r.write(c)
	return s.commit(c)
}

// commit ends a change. A store whose disk died is shut: only Open knows what came of it.
func (s *Store) commit(c *change.Change) api.Errno {
	if c.Full() {
		return api.ErrSpace
	}
	if !c.Commit() {
		s.disk = nil
		return api.ErrDead
	}
	return api.OK
}

// versions goes over the versions in their order, from a place on.
func (s *Store) versions(from tree.Place) iter.Seq[tree.Entry] {
	return tree.Walk(s.disk, readRoot(s.disk).tree, from)
}

// first gives the first version at a place or behind it.
func (s *Store) first(from tree.Place) (tree.Entry, bool) {
	for e := range s.versions(from) {
		return e, true
	}
	return tree.Entry{}, false
}

// newest gives a key's newest version; false: there is none, or it is a marker.
func (s *Store) newest(key string) (tree.Entry, bool) {
	e, ok := s.first(tree.Place{Key: key, Number: math.MaxInt})
	return e, ok && e.Key == key && !e.Marker
}

// start gives the place right behind a key and a number, or the one where the prefix's keys begin, whichever is further behind.
func start(prefix, key string, number int) tree.Place {
	if key < prefix {
		return tree.Place{Key: prefix, Number: math.MaxInt}
	}
	return tree.Place{Key: key, Number: number - 1}
}

// page gives the first versions from a place on, but at most so many. The keys of a prefix go one behind the other: the first that is none of them ends the page.
func (s *Store) page(prefix string, from tree.Place, most int) api.Page {
	var p api.Page
	for e := range s.versions(from) {
		if !strings.HasPrefix(e.Key, prefix) {
			break
		}
		if len(p.Versions) == most {
			p.More = true
			break
		}
		p.Versions = append(p.Versions, api.Version{Key: e.Key, Number: e.Number, Marker: e.Marker, Size: e.Size})
	}
	return p
}

// body gives the bytes of a version's body, in memory of their own.
func (s *Store) body(e tree.Entry) []byte {
	bytes := make([]byte, 0, e.Size)
	for _, piece := range body.Walk(s.disk, e.At) {
		bytes = append(bytes, piece...)
	}
	return bytes
}
