// Package tree finds versions: a tree of blocks, ordered by key and number.
package tree

import (
	"cmp"
	"slices"
	"strings"

	"cairn/api"
	"cairn/block"
	"cairn/change"
)

// Place is where a version goes in the order of versions.
type Place struct {
	Key    string
	Number int
}

// compare: by keys, those of one key by numbers, the greatest first.
func (a Place) compare(b Place) int {
	return cmp.Or(strings.Compare(a.Key, b.Key), cmp.Compare(b.Number, a.Number))
}

// Entry is an item of a leaf: a version, and At, where its body begins. As an item of a branch it is the place from which on a child has the versions, and At, where the child is.
type Entry struct {
	Place
	Marker bool
	Size   int
	At     int
}

// markerSize stands in the place of a size, and is none.
const markerSize = 1<<(8*block.SizeBytes) - 1

// Where the parts of an item stand.
const (
	numberFrom  = api.MaxKey
	addressFrom = block.PlaceBytes
	sizeFrom    = addressFrom + block.AddressBytes
)

// node is a block of the tree: a leaf or a branch.
type node struct {
	kind    block.Kind
	entries []Entry
}

func load(r change.Reader, at int) node {
	p := block.Page(r.Read(at))
	n := node{kind: p.Kind()}
	for i := range p.Count() {
		n.entries = append(n.entries, readEntry(n.kind, p.Item(i)))
	}
	return n
}

func (n node) save(c *change.Change, at int) {
	p := block.New(n.kind)
	for _, e := range n.entries {
		writeEntry(n.kind, p.Grow(1), e)
	}
	c.Write(at, p)
}

// readEntry: no key has a nought in it, so those behind a short key are not of it.
func readEntry(k block.Kind, item []byte) Entry {
	var e Entry
	e.Key = strings.TrimRight(string(item[:numberFrom]), "\x00")
	e.Number = block.Number(item[numberFrom:addressFrom])
	e.At = block.Number(item[addressFrom:sizeFrom])
	if k == block.Leaf {
		e.Size = block.Number(item[sizeFrom:])
	}
	if e.Size == markerSize {
		e.Size, e.Marker = 0, true
	}
	return e
}

func writeEntry(k block.Kind, item []byte, e Entry) {
	copy(item[:numberFrom], e.Key)
	block.SetNumber(item[numberFrom:addressFrom], e.Number)
	block.SetNumber(item[addressFrom:sizeFrom], e.At)
	size := e.Size
	if e.Marker {
		size = markerSize
	}
	if k == block.Leaf {
		block.SetNumber(item[sizeFrom:], size)
	}
}

// from gives the first entry at a place or behind it.
func (n node) from(p Place) int {
	i, _ := slices.BinarySearchFunc(n.entries, p, func(e Entry, p Place) int { return e.compare(p) })
	return i
}

// child gives the entry of the child that has a place: the last one that begins at it or ahead of it. The first child has all that is ahead of the second, wherever it is said to begin.
func (n node) child(p Place) int {
	i := n.from(p)
	if i < len(n.entries) && n.entries[i].Place == p {
		return i
	}
	return max(i-1, 0)
}
