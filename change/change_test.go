package change_test

import (
	"fmt"
	"math/rand"
	"strconv"
	"testing"

	"cairn/api"
	"cairn/block"
	"cairn/change"
	"cairn/disk"
)

// page gives a page that tells what it is.
func page(text string) block.Page {
	p := block.New(block.Body)
	copy(p.Grow(len(text)), text)
	return p
}

func text(r change.Reader, at int) string {
	p := block.Page(r.Read(at))
	return string(p.Items())
}

func TestChangeIsSeenInItselfAlone(t *testing.T) {
	d := disk.New(64)
	c := change.Begin(d)
	c.Write(40, page("one"))
	c.Write(41, page("two"))
	c.Write(40, page("three"))
	if text(c, 40) != "three" || text(c, 41) != "two" || text(c, 42) != "" {
		t.Errorf("the change has %q, %q, %q", text(c, 40), text(c, 41), text(c, 42))
	}
	if text(d, 40) != "" || text(d, 41) != "" {
		t.Error("a change that was not committed is on the disk")
	}
	if !c.Commit() {
		t.Fatal("the disk died")
	}
	d.Fall(nil)
	if text(d, 40) != "three" || text(d, 41) != "two" {
		t.Errorf("the disk has %q, %q", text(d, 40), text(d, 41))
	}
}

func TestTakeGivesEveryBlockOnce(t *testing.T) {
	for _, blocks := range []int{64, 65, 71, 72, 500, 1000} {
		d := disk.New(blocks)
		seen := make(map[int]bool)
		for i := range blocks - block.DataAt {
			change.Begin(d).Take() // a change that is not committed keeps nothing
			c := change.Begin(d)
			at := c.Take()
			if at < block.DataAt || at >= blocks || seen[at] || c.Full() {
				t.Fatalf("block %d of %d is %d", i, blocks, at)
			}
			seen[at] = true
			if !c.Commit() {
				t.Fatal("the disk died")
			}
		}
		c := change.Begin(d)
		if at := c.Take(); at != 0 || !c.Full() {
			t.Errorf("on a full disk of %d blocks Take gives %d", blocks, at)
		}
	}
}

func TestTakeTellsOneChangeDifferentBlocks(t *testing.T) {
	c := change.Begin(disk.New(64))
	seen := make(map[int]bool)
	for range 64 - block.DataAt {
		at := c.Take()
		if at < block.DataAt || at >= 64 || seen[at] || c.Full() {
			t.Fatalf("Take gives %d", at)
		}
		seen[at] = true
	}
	if at := c.Take(); at != 0 || !c.Full() {
		t.Errorf("Take gives %d, Full is %v", at, c.Full())
	}
}

func TestFreedBlocksAreTakenAgain(t *testing.T) {
	for _, blocks := range []int{64, 71, 72, 1000} {
		d := disk.New(blocks)
		c := change.Begin(d)
		for range blocks - block.DataAt {
			c.Take()
		}
		if !c.Commit() {
			t.Fatal("the disk died")
		}
		for at := block.DataAt; at < blocks; at++ {
			change.Begin(d).Free(at) // a change that is not committed frees nothing
			if change.Begin(d).Take() != 0 {
				t.Fatalf("of %d blocks one is free", blocks)
			}
			c := change.Begin(d)
			c.Free(at)
			if !c.Commit() {
				t.Fatal("the disk died")
			}
			c = change.Begin(d)
			if got := c.Take(); got != at || c.Take() != 0 {
				t.Fatalf("of %d blocks %d was freed, Take gives %d", blocks, at, got)
			}
			c = change.Begin(d)
			c.Take()
			if !c.Commit() {
				t.Fatal("the disk died")
			}
		}
	}
}

func TestFreedInTheSameChange(t *testing.T) {
	d := disk.New(64)
	c := change.Begin(d)
	a, b := c.Take(), c.Take()
	c.Write(a, page("a"))
	c.Write(b, page("b"))
	c.Free(a)
	if text(c, a) != "" || text(c, b) != "b" {
		t.Errorf("behind Free there are %q and %q", text(c, a), text(c, b))
	}
	if got := c.Take(); got != a {
		t.Errorf("Take gives %d, not %d, which was freed", got, a)
	}
	c.Write(a, page("again"))
	if c.Full() || !c.Commit() {
		t.Fatal("there is no room")
	}
	if text(d, a) != "again" || text(d, b) != "b" {
		t.Errorf("the disk has %q and %q", text(d, a), text(d, b))
	}
}

// What was to be written into blocks that were freed takes up no room in the log.
func TestFreedBlocksAreNotLogged(t *testing.T) {
	d := disk.New(1000)
	c := change.Begin(d)
	for range 10 * block.LogBlocks {
		at := c.Take()
		c.Write(at, page("x"))
		c.Free(at)
	}
	if c.Full() {
		t.Error("a change of the map alone is full")
	}
	if !c.Commit() {
		t.Error("the disk died")
	}
	if got := change.Begin(d).Take(); got != block.DataAt {
		t.Errorf("Take gives %d", got)
	}
}

func TestChangeThatTheLogDoesNotHoldIsFull(t *testing.T) {
	c := change.Begin(disk.New(64))
	for i := range block.LogBlocks {
		c.Write(block.DataAt+i, page("x"))
		c.Write(block.DataAt, page("y"))
	}
	if c.Full() {
		t.Error("a change of as many blocks as the log has is full")
	}
	c.Write(block.DataAt+block.LogBlocks, page("x"))
	if !c.Full() {
		t.Error("a change of more blocks than the log has is not full")
	}
}

// before gives a disk with a change on it, and after makes another one.
func before(t *testing.T) *disk.Disk {
	d := disk.New(64)
	c := change.Begin(d)
	for i := range 6 {
		c.Write(40+i, page(fmt.Sprint("old", i)))
	}
	if !c.Commit() {
		t.Fatal("the disk died")
	}
	return d
}

func after(d *disk.Disk) bool {
	c := change.Begin(d)
	for i := range 5 {
		c.Write(45-i, page(fmt.Sprint("new", 5-i)))
	}
	return c.Commit()
}

// state tells which of the two is on a disk; "" if it is neither, wholly.
func state(d *disk.Disk) string {
	if text(d, 40) != "old0" {
		return ""
	}
	was := text(d, 41)[:3]
	for i := 1; i < 6; i++ {
		if text(d, 40+i) != fmt.Sprint(was, i) {
			return ""
		}
	}
	return was
}

// keeps gives every choice among n writes.
func keeps(n int) [][]bool {
	var all [][]bool
	for bits := range 1 << n {
		keep := make([]bool, n)
		for i := range keep {
			keep[i] = bits>>i&1 == 1
		}
		all = append(all, keep)
	}
	return all
}

// A change that dies after any number of writes and flushes is there wholly or not at all, whatever the fall keeps, and stays as it was found, even if what finishes it dies too.
func TestDyingLeavesNoHalves(t *testing.T) {
	found := make(map[string]int)
	for fuse := 0; ; fuse++ {
		d := before(t)
		d.Fuse(fuse)
		if after(d) {
			// Twice the five blocks and a head, each of these flushed.
			if state(d) != "new" || fuse != 16 {
				t.Errorf("with the fuse %d the change is %q", fuse, state(d))
			}
			break
		}
		for _, keep := range keeps(6) {
			c := d.Copy()
			c.Fall(keep)
			found[finish(t, c)]++
		}
		// The same disk, brought to life without a fall.
		c := d.Copy()
		c.Fuse(-1)
		found[finish(t, c)]++
	}
	if found["old"] == 0 || found["new"] == 0 || found[""] != 0 {
		t.Errorf("P5: found %v", found)
	}
}

// finish lets Finish die after every number of writes and flushes, falls in every way, and then asks what is there.
func finish(t *testing.T, d *disk.Disk) string {
	t.Helper()
	whole := d.Copy()
	if !change.Finish(whole) {
		t.Fatal("a living disk died")
	}
	want := state(whole)
	for fuse := 0; ; fuse++ {
		c := d.Copy()
		c.Fuse(fuse)
		if change.Finish(c) {
			break
		}
		for _, keep := range [][]bool{nil, {true}, {false, true}, {true, false, true}, {false, false, true, true, true}, {true, true, true, true, true, true}} {
			e := c.Copy()
			e.Fall(keep)
			// Until a Finish has answered, a head that was not flushed may come or go.
			if !change.Finish(e) || state(e) == "" {
				t.Errorf("P5: behind a Finish of the fuse %d there is %q", fuse, state(e))
			}
			if fuse > 0 && state(e) != want {
				t.Errorf("P5: behind a Finish of the fuse %d there is %q, not %q", fuse, state(e), want)
			}
		}
	}
	whole.Fall(nil)
	if !change.Finish(whole) || state(whole) != want {
		t.Errorf("P5: what was found there once is %q, not %q", state(whole), want)
	}
	return want
}

// greatest makes a change of as many blocks as the log has: the numbers from 0 on, or others.
func greatest(d *disk.Disk, from int) bool {
	c := change.Begin(d)
	for i := range block.LogBlocks {
		c.Write(block.DataAt+i*7%block.LogBlocks, page(fmt.Sprint(from+i)))
	}
	return c.Commit()
}

// numbers tells the number from which on a disk has such a change; false: it has none, wholly.
func numbers(d *disk.Disk) (int, bool) {
	from, _ := strconv.Atoi(text(d, block.DataAt))
	for i := range block.LogBlocks {
		if text(d, block.DataAt+i*7%block.LogBlocks) != fmt.Sprint(from+i) {
			return 0, false
		}
	}
	return from, true
}

// Changes that fill the log die one behind the other, and so does what finishes them: each is there wholly or not at all, and stays as it was found.
func TestDyingOfTheGreatestChanges(t *testing.T) {
	r := rand.New(rand.NewSource(3))
	live := func(d *disk.Disk) {
		keep := make([]bool, 3*block.LogBlocks)
		for i := range keep {
			keep[i] = r.Intn(2) == 0
		}
		if r.Intn(4) > 0 {
			d.Fall(keep)
		}
		d.Fuse(-1)
	}
	for fuse := range 3000 {
		d := disk.New(api.MinBlocks)
		if !greatest(d, 0) {
			t.Fatal("the disk died")
		}
		is := 0
		for next := 100; next < 500; next += 100 {
			d.Fuse((fuse + next) % (2*block.LogBlocks + 7))
			ok := greatest(d, next)
			live(d)
			for d.Fuse(r.Intn(3 * block.LogBlocks)); !change.Finish(d); d.Fuse(r.Intn(3 * block.LogBlocks)) {
				live(d)
			}
			got, whole := numbers(d)
			if !whole || got != next && (ok || got != is) {
				t.Fatalf("P5: behind %d and %d (answered for: %v) there is %d, wholly: %v", is, next, ok, got, whole)
			}
			is = got
		}
	}
}

func TestFinishReadsLittle(t *testing.T) {
	d := before(t)
	d.Fuse(9)
	if after(d) {
		t.Fatal("the disk did not die")
	}
	d.Fall(nil)
	r := d.Reads()
	if !change.Finish(d) || state(d) != "new" {
		t.Fatalf("there is %q", state(d))
	}
	if n := d.Reads() - r; n > 1+block.LogBlocks+6 || n > 2*api.MinBlocks {
		t.Errorf("P11: Finish read %d blocks", n)
	}
}
