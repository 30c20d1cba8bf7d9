package change

import "cairn/block"

// Take gives a block that was free. Where there is none, it gives 0, and the change is full: whoever makes it may go on, but it must not be committed.
func (c *Change) Take() int {
	m := c.takenMap()
	bits := m.Items()
	for at := block.DataAt; at < c.disk.Blocks(); at++ {
		cell, bit := (at-block.DataAt)/8, byte(1)<<((at-block.DataAt)%8)
		if bits[cell]&bit == 0 {
			bits[cell] |= bit
			c.Write(block.MapAt, m)
			return at
		}
	}
	c.full = true
	return 0
}

// Full tells whether there is no room for the change, on the disk or in the log.
func (c *Change) Full() bool {
	return c.full || len(c.writes) > block.LogBlocks
}

// takenMap gives the map; of a disk on which nothing was put yet, one of a bit for every block there might be.
func (c *Change) takenMap() block.Page {
	m := block.Page(c.Read(block.MapAt))
	if m.Kind() == block.Nought {
		m = block.New(block.Map)
		m.Grow(block.Map.Room())
	}
	return m
}
