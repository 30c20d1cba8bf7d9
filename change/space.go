package change

import (
	"slices"

	"cairn/block"
)

// Take gives a block that was free. Where there is none, it gives 0, and the change is full: whoever makes it may go on, but it must not be committed.
func (c *Change) Take() int {
	m := c.takenMap()
	bits := m.Items()
	for at := block.DataAt; at < c.disk.Blocks(); at++ {
		cell, bit := bitOf(at)
		if bits[cell]&bit == 0 {
			bits[cell] |= bit
			c.Write(block.MapAt, m)
			return at
		}
	}
	c.full = true
	return 0
}

// Free gives a block back, for others to take. What the change would have written there is not written any more: it must not take up the log.
func (c *Change) Free(at int) {
	m := c.takenMap()
	cell, bit := bitOf(at)
	m.Items()[cell] &^= bit
	c.Write(block.MapAt, m)
	c.writes = slices.DeleteFunc(c.writes, func(w write) bool { return w.at == at })
}

// Full tells whether there is no room for the change, on the disk or in the log.
func (c *Change) Full() bool {
	return c.full || len(c.writes) > block.LogBlocks
}

// bitOf tells which byte of the map a block's bit is in, and which one it is there.
func bitOf(at int) (int, byte) {
	i := at - block.DataAt
	return i / 8, 1 << (i % 8)
}

// takenMap gives the map; of a disk on which nothing was put yet, one of a bit for every block there might be.
func (c *Change) takenMap() block.Page {
	m := block.Page(c.Read(block.MapAt))
	if m.Kind() == block.Nought {
		m = block.New(block.Map)
		m.Grow(block.Map.Room())
	}
	return m
}
