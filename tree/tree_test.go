package tree_test

import (
	"cmp"
	"fmt"
	"math"
	"math/rand"
	"slices"
	"strings"
	"testing"

	"cairn/api"
	"cairn/block"
	"cairn/change"
	"cairn/disk"
	"cairn/tree"
)

func entry(key string, number int) tree.Entry {
	e := tree.Entry{Place: tree.Place{Key: key, Number: number}, Marker: number%4 == 0}
	if !e.Marker {
		e.Size, e.At = number%(api.MaxBody+1), number%api.MaxBlocks
	}
	return e
}

// order is the document's, byte by byte.
func order(a, b tree.Place) int {
	return cmp.Or(slices.Compare([]byte(a.Key), []byte(b.Key)), -cmp.Compare(a.Number, b.Number))
}

// grown gives a disk with a tree of these entries on it, taken in as they come, each by a change of its own.
func grown(t *testing.T, entries []tree.Entry) (*disk.Disk, int) {
	t.Helper()
	d, root := disk.New(api.MaxBlocks), 0
	for _, e := range entries {
		c := change.Begin(d)
		r := d.Reads()
		root = tree.Insert(c, root, e)
		if n := d.Reads() - r; n > 9 {
			t.Errorf("P11: Insert read %d blocks", n)
		}
		if c.Full() || !c.Commit() {
			t.Fatal("there is no room")
		}
	}
	return d, root
}

// orders gives the entries of many keys and numbers in some orders.
func orders() map[string][]tree.Entry {
	var keys, one, few []tree.Entry
	for i := range 400 {
		keys = append(keys, entry(fmt.Sprintf("k/%d", i), i+1))
		one = append(one, entry("one", i+1))
		few = append(few, entry(strings.Repeat("-", 1+i%8), i+1))
	}
	mixed := slices.Concat(keys, one, few)
	rand.New(rand.NewSource(1)).Shuffle(len(mixed), func(i, j int) { mixed[i], mixed[j] = mixed[j], mixed[i] })
	falling := slices.Clone(keys)
	slices.Reverse(falling)
	return map[string][]tree.Entry{"keys": keys, "falling": falling, "one": one, "few": few, "mixed": mixed, "none": nil, "single": keys[:1]}
}

func TestWalkIsInOrder(t *testing.T) {
	for name, entries := range orders() {
		d, root := grown(t, entries)
		want := slices.SortedFunc(slices.Values(entries), func(a, b tree.Entry) int { return order(a.Place, b.Place) })
		if got := slices.Collect(tree.Walk(d, root, tree.Place{})); !slices.Equal(got, want) {
			t.Errorf("%s: the walk gives %d entries of %d, or others", name, len(got), len(want))
		}
	}
}

func TestWalkFromEveryPlace(t *testing.T) {
	for name, entries := range orders() {
		d, root := grown(t, entries)
		all := slices.Collect(tree.Walk(d, root, tree.Place{}))
		var places []tree.Place
		for _, e := range entries {
			for _, n := range []int{e.Number - 1, e.Number, e.Number + 1, 0, math.MaxInt, math.MinInt} {
				places = append(places, tree.Place{Key: e.Key, Number: n})
			}
			places = append(places, tree.Place{Key: e.Key + "-", Number: e.Number}, tree.Place{Key: "zz", Number: 1})
		}
		for _, p := range places {
			i := 0
			for i < len(all) && order(all[i].Place, p) < 0 {
				i++
			}
			want := all[i:min(i+8, len(all))]
			r := d.Reads()
			var got []tree.Entry
			for e := range tree.Walk(d, root, p) {
				if len(got) == 0 && d.Reads()-r > 14 {
					t.Errorf("P11: %s: to the first entry from %v on %d blocks are read", name, p, d.Reads()-r)
				}
				if got = append(got, e); len(got) == 8 {
					break
				}
			}
			if !slices.Equal(got, want) {
				t.Fatalf("%s: from %v on: %v, not %v", name, p, got, want)
			}
		}
	}
}

// What LogBlocks counts with: how full nodes are, and how high the tree is.
func TestTreeIsFullAndLow(t *testing.T) {
	for name, entries := range orders() {
		d, root := grown(t, entries)
		if root == 0 {
			continue
		}
		depths := make(map[int]bool)
		var look func(at, depth int)
		look = func(at, depth int) {
			p := block.Page(d.Read(at))
			least := 3
			if at == root && p.Kind() == block.Branch {
				least = 2
			}
			if at == root && p.Kind() == block.Leaf {
				least = 1
			}
			if p.Count() < least || p.Count() > p.Kind().Room() {
				t.Errorf("%s: a node of kind %d has %d items", name, p.Kind(), p.Count())
			}
			if p.Kind() == block.Leaf {
				depths[depth] = true
				return
			}
			for i := range p.Count() {
				look(block.Number(p.Item(i)[block.PlaceBytes:]), depth+1)
			}
		}
		look(root, 1)
		if len(depths) != 1 || depths[8] {
			t.Errorf("%s: the leaves are on the levels %v", name, depths)
		}
	}
}

func TestEntriesLast(t *testing.T) {
	entries := []tree.Entry{
		{Place: tree.Place{Key: "a", Number: 1}},
		{Place: tree.Place{Key: "a/b-c/d0", Number: math.MaxInt}, Size: api.MaxBody, At: api.MaxBlocks - 1},
		{Place: tree.Place{Key: "b", Number: 1<<32 + 1}, Marker: true},
		{Place: tree.Place{Key: "c", Number: 1 << 32}, Size: 255, At: 256},
		{Place: tree.Place{Key: "c", Number: 3}, Size: 256, At: 255},
	}
	d, root := grown(t, entries)
	if got := slices.Collect(tree.Walk(d.Copy(), root, tree.Place{})); !slices.Equal(got, entries) {
		t.Errorf("the tree has %v", got)
	}
}

func TestInsertWithoutRoomIsFull(t *testing.T) {
	d, root := disk.New(api.MinBlocks), 0
	for i := 1; ; i++ {
		c := change.Begin(d)
		next := tree.Insert(c, root, entry("key", i))
		if c.Full() {
			if got := len(slices.Collect(tree.Walk(d, root, tree.Place{}))); got != i-1 || i < 2*(api.MinBlocks-block.DataAt) {
				t.Errorf("%d entries were taken in, %d are there", i-1, got)
			}
			return
		}
		c.Commit()
		root = next
	}
}
