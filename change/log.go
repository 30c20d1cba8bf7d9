package change

import (
	"cairn/block"
	"cairn/disk"
)

// Commit brings a change to the disk; false: the disk died, and the next Finish tells whether the change is there.
func (c *Change) Commit() bool {
	return note(c.disk, c.writes) && settle(c.disk, c.writes)
}

// Finish does what the log of a disk says; false: the disk died meanwhile.
func Finish(d *disk.Disk) bool {
	// A head that was written but not flushed may be lost yet. What is done by it must not outlast it.
	if !d.Flush() {
		return false
	}
	head := block.Page(d.Read(block.HeadAt))
	if head.Count() == 0 {
		return true
	}
	var writes []write
	for i := range head.Count() {
		writes = append(writes, write{at: block.Number(head.Item(i)), b: d.Read(block.LogAt + i)})
	}
	return settle(d, writes)
}

// note writes blocks into the log, and says in the head that they are there only when they will last.
func note(d *disk.Disk, writes []write) bool {
	head := block.New(block.Head)
	for i, w := range writes {
		block.SetNumber(head.Grow(1), w.at)
		if !d.Write(block.LogAt+i, w.b) {
			return false
		}
	}
	return d.Flush() && setHead(d, head)
}

// settle writes blocks that are in the log to their places, and empties the head only when they will last there.
func settle(d *disk.Disk, writes []write) bool {
	for _, w := range writes {
		if !d.Write(w.at, w.b) {
			return false
		}
	}
	return d.Flush() && setHead(d, block.New(block.Head))
}

func setHead(d *disk.Disk, head block.Page) bool {
	return d.Write(block.HeadAt, disk.Block(head)) && d.Flush()
}
