package body_test

import (
	"bytes"
	"testing"

	"cairn/api"
	"cairn/block"
	"cairn/body"
	"cairn/change"
	"cairn/disk"
)

func sample(n int) []byte {
	b := make([]byte, n)
	for i := range b {
		b[i] = byte(i*7 + n)
	}
	return b
}

func read(r change.Reader, first int) []byte {
	var all []byte
	for _, piece := range body.Walk(r, first) {
		all = append(all, piece...)
	}
	return all
}

func TestBodyOfEveryLength(t *testing.T) {
	for n := range api.MaxBody + 1 {
		d := disk.New(64)
		c := change.Begin(d)
		first := body.Write(c, sample(n))
		if c.Full() || !c.Commit() {
			t.Fatal("there is no room")
		}
		r := d.Reads()
		got := read(d, first)
		if !bytes.Equal(got, sample(n)) {
			t.Errorf("of %d bytes there are %d, or others", n, len(got))
		}
		if reads := d.Reads() - r; reads > (n+api.Share-1)/api.Share {
			t.Errorf("P11: %d bytes are in %d blocks", n, reads)
		}
	}
}

func TestBodiesDoNotMix(t *testing.T) {
	d := disk.New(64)
	var firsts []int
	for i := range 10 {
		c := change.Begin(d)
		firsts = append(firsts, body.Write(c, sample(30*i)))
		if !c.Commit() {
			t.Fatal("the disk died")
		}
	}
	for i, first := range firsts {
		if got := read(d, first); !bytes.Equal(got, sample(30*i)) {
			t.Errorf("body %d is another", i)
		}
	}
}

func TestBodyWalkStops(t *testing.T) {
	d := disk.New(64)
	c := change.Begin(d)
	first := body.Write(c, sample(api.MaxBody))
	r := d.Reads()
	for range body.Walk(c, first) {
		break
	}
	if d.Reads() != r {
		t.Error("what is in the change was read from the disk")
	}
	c.Commit()
	r = d.Reads()
	for range body.Walk(d, first) {
		break
	}
	if n := d.Reads() - r; n != 1 {
		t.Errorf("a walk that was stopped read %d blocks", n)
	}
}

func TestBodyWithoutRoomIsFull(t *testing.T) {
	c := change.Begin(disk.New(64))
	for !c.Full() {
		body.Write(c, sample(api.MaxBody))
	}
	body.Write(c, sample(api.MaxBody))
	if !c.Full() {
		t.Error("the change is not full any more")
	}
}

func TestFreedBodyLeavesNothingTaken(t *testing.T) {
	for n := range api.MaxBody + 1 {
		d := disk.New(64)
		c := change.Begin(d)
		kept := body.Write(c, sample(77))
		first := body.Write(c, sample(n))
		if !c.Commit() {
			t.Fatal("the disk died")
		}
		taken := d.Read(block.MapAt)
		c = change.Begin(d)
		r := d.Reads()
		body.Free(c, first)
		if reads := d.Reads() - r; n > 0 && reads > 1+(n+api.Share-1)/api.Share {
			t.Errorf("P11: to free %d bytes %d blocks are read", n, reads)
		}
		if c.Full() || !c.Commit() {
			t.Fatal("there is no room")
		}
		if !bytes.Equal(read(d, kept), sample(77)) {
			t.Errorf("with %d bytes others were freed", n)
		}
		// A body of the same length takes the same blocks, and no others.
		c = change.Begin(d)
		body.Write(c, sample(n))
		if c.Read(block.MapAt) != taken {
			t.Errorf("behind %d bytes other blocks are taken", n)
		}
	}
}

func TestBodyWalkTellsBlocks(t *testing.T) {
	d := disk.New(64)
	c := change.Begin(d)
	first := body.Write(c, sample(api.MaxBody))
	seen := make(map[int]bool)
	for at, piece := range body.Walk(c, first) {
		p := block.Page(c.Read(at))
		if len(seen) == 0 && at != first || seen[at] || !bytes.Equal(p.Items(), piece) {
			t.Errorf("block %d is not where the walk says", at)
		}
		seen[at] = true
	}
	if len(seen) != 3 {
		t.Errorf("the walk tells of %d blocks", len(seen))
	}
}
