// Package change gathers what a change writes, and brings it to the disk by way of the log, wholly or not at all.
package change

import (
	"cairn/block"
	"cairn/disk"
)

// Reader is what blocks can be read from: a disk, or a change on its way there.
type Reader interface {
	Read(at int) disk.Block
}

// write is a block and where it belongs.
type write struct {
	at int
	b  disk.Block
}

// Change is what is to be written. Until it is committed, the disk has nothing of it.
type Change struct {
	disk   *disk.Disk
	writes []write // a list, not a map: the disk is to be written in one order always
	full   bool
}

// Begin gives a change of nothing.
func Begin(d *disk.Disk) *Change { return &Change{disk: d} }

// Read gives a block as it will be.
func (c *Change) Read(at int) disk.Block {
	if i := c.find(at); i >= 0 {
		return c.writes[i].b
	}
	return c.disk.Read(at)
}

// Write says how a block will be.
func (c *Change) Write(at int, p block.Page) {
	if i := c.find(at); i >= 0 {
		c.writes[i].b = disk.Block(p)
		return
	}
	c.writes = append(c.writes, write{at: at, b: disk.Block(p)})
}

// find gives the place of a block among the writes, or -1.
func (c *Change) find(at int) int {
	for i, w := range c.writes {
		if w.at == at {
			return i
		}
	}
	return -1
}
