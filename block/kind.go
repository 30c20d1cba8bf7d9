package block

import "cairn/api"

// Kind tells what a block is for. It is the block's first byte.
type Kind byte

const (
	Nought Kind = iota // never written: a disk of noughts is a store without versions
	Head               // of the log: where the blocks in the log belong
	Root               // the greatest number that was given, and a link to the tree
	Map                // a bit for each block from DataAt on: whether it is taken
	Branch             // of the tree: children, and the places from which on their versions are
	Leaf               // of the tree: versions, and where their bodies begin
	Body               // bytes of a body, and a link to the block with the next ones
)

// How many bytes the parts of an item have.
const (
	AddressBytes = 2
	NumberBytes  = 8
	SizeBytes    = 2
	PlaceBytes   = api.MaxKey + NumberBytes
)

// Width tells how many bytes an item in a block of this kind has.
func (k Kind) Width() int {
	switch k {
	case Head:
		return AddressBytes
	case Root:
		return NumberBytes
	case Branch:
		return PlaceBytes + AddressBytes
	case Leaf:
		return PlaceBytes + AddressBytes + SizeBytes
	case Map, Body:
		return 1
	}
	return 0
}

// Room tells how many items a block of this kind holds at most.
func (k Kind) Room() int {
	if k.Width() == 0 {
		return 0
	}
	return (api.BlockSize - frontBytes) / k.Width()
}
