package block_test

import (
	"math"
	"testing"

	"cairn/api"
	"cairn/block"
)

var kinds = []block.Kind{block.Nought, block.Head, block.Root, block.Map, block.Branch, block.Leaf, block.Body}

func TestKindsDiffer(t *testing.T) {
	seen := make(map[block.Kind]bool)
	for _, k := range kinds {
		if seen[k] {
			t.Errorf("the kind %d is there twice", k)
		}
		seen[k] = true
	}
	if block.Nought != 0 {
		t.Error("a block of noughts is not of the kind Nought")
	}
}

func TestKindsHaveRoom(t *testing.T) {
	if n := block.Head.Room(); n < block.LogBlocks {
		t.Errorf("a head names %d blocks, the log has %d", n, block.LogBlocks)
	}
	if n := block.Map.Room() * 8; n < api.MaxBlocks-block.DataAt {
		t.Errorf("a map has %d bits, a disk up to %d blocks from DataAt on", n, api.MaxBlocks-block.DataAt)
	}
	if n := block.Body.Room(); n < api.Share {
		t.Errorf("P11: a block holds %d bytes of a body, not %d", n, api.Share)
	}
	for _, k := range []block.Kind{block.Branch, block.Leaf} {
		if n := (k.Room() + 1) / 2; n < 3 {
			t.Errorf("a half of a node of kind %d has %d items, LogBlocks counts with 3", k, n)
		}
	}
	if block.Nought.Room() != 0 || block.Kind(200).Room() != 0 {
		t.Error("what is no kind has room")
	}
}

// As many blocks as the layout takes away must leave the promised room on the least disk (P11).
func TestLayoutLeavesRoom(t *testing.T) {
	if block.DataAt > api.Spare {
		t.Errorf("P11: %d blocks are the store's own, more than the %d spare ones", block.DataAt, api.Spare)
	}
}

func TestPageKeepsItsItems(t *testing.T) {
	for _, k := range kinds {
		p := block.New(k)
		if p.Kind() != k || p.Count() != 0 || p.Link() != 0 || len(p.Items()) != 0 {
			t.Errorf("a new page: kind %d, %d items, link %d", p.Kind(), p.Count(), p.Link())
		}
		p.SetLink(api.MaxBlocks - 1)
		for i := range k.Room() {
			item := p.Grow(1)
			if len(item) != k.Width() {
				t.Fatalf("an item of kind %d has %d bytes, not %d", k, len(item), k.Width())
			}
			for j := range item {
				item[j] = byte(i + j + 1)
			}
		}
		if p.Kind() != k || p.Count() != k.Room() || p.Link() != api.MaxBlocks-1 {
			t.Errorf("a full page: kind %d, %d items, link %d", p.Kind(), p.Count(), p.Link())
		}
		for i := range k.Room() {
			for j, b := range p.Item(i) {
				if b != byte(i+j+1) || b != p.Items()[i*k.Width()+j] {
					t.Fatalf("kind %d: byte %d of item %d is %d", k, j, i, b)
				}
			}
		}
	}
}

func TestPageGrowsByMany(t *testing.T) {
	p := block.New(block.Body)
	copy(p.Grow(3), "abc")
	copy(p.Grow(2), "de")
	if string(p.Items()) != "abcde" || p.Count() != 5 {
		t.Errorf("the page has %q", p.Items())
	}
}

func TestNumbers(t *testing.T) {
	for _, n := range []int{0, 1, 255, 256, 1<<16 - 1, 1 << 16, 1<<32 - 1, 1 << 32, 1<<32 + 1, math.MaxInt} {
		for width := block.AddressBytes; width <= block.NumberBytes; width++ {
			if width < 8 && n >= 1<<(8*width) {
				continue
			}
			room := make([]byte, width+2)
			room[0], room[width+1] = 7, 9
			block.SetNumber(room[1:width+1], n)
			if got := block.Number(room[1 : width+1]); got != n {
				t.Errorf("%d in %d bytes is %d", n, width, got)
			}
			if room[0] != 7 || room[width+1] != 9 {
				t.Errorf("%d in %d bytes writes beside them", n, width)
			}
		}
	}
	if block.Number(nil) != 0 {
		t.Error("no bytes are a number")
	}
}
