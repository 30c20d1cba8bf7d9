// Package body keeps the bytes of bodies in chains of blocks.
package body

import (
	"iter"
	"slices"

	"cairn/block"
	"cairn/change"
)

// Write keeps some bytes, and tells where their first block is; 0, if there are none.
func Write(c *change.Change, bytes []byte) int {
	pieces := slices.Collect(slices.Chunk(bytes, block.Body.Room()))
	first := 0
	// From the last one on, for each names the one behind it.
	for _, piece := range slices.Backward(pieces) {
		p := block.New(block.Body)
		p.SetLink(first)
		copy(p.Grow(len(piece)), piece)
		first = c.Take()
		c.Write(first, p)
	}
	return first
}

// Walk goes over the blocks of a body, from its first one on, and gives for each where it is and its bytes.
func Walk(r change.Reader, first int) iter.Seq2[int, []byte] {
	return func(yield func(int, []byte) bool) {
		for at := first; at != 0; {
			p := block.Page(r.Read(at))
			if !yield(at, p.Items()) {
				return
			}
			at = p.Link()
		}
	}
}

// Free gives the blocks of a body back.
func Free(c *change.Change, first int) {
	for at := range Walk(c, first) {
		c.Free(at)
	}
}
