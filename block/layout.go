// Package block says how a store lays out its disk: which block is where, of which kinds blocks are, and what stands in them.
package block

// Which block is where.
const (
	HeadAt = 0
	RootAt = 1
	MapAt  = 2
	LogAt  = 3
	DataAt = LogAt + LogBlocks // from here on: the tree and the bodies
)

// LogBlocks is how many blocks a change touches at most.
//
// A node has at least 3 items, a root 2, so that the blocks from DataAt on hold no tree of more than 7 levels (of 8 it has 2187 blocks). A Put touches most where it splits every level but the root's: 7 nodes and 6 new ones, 3 blocks of a body, the page of the root and the map. An Erase touches fewer: a node on each level, one more where two are evened out, the page of the root and the map.
const LogBlocks = 18
