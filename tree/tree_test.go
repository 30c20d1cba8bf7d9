package tree_test

import (
	"cmp"
	"fmt"
	"math"
	"math/rand"
	"slices"
	"strings"
	"testing"

	"cairn/api"
	"cairn/block"
	"cairn/change"
	"cairn/disk"
	"cairn/tree"
)

func entry(key string, number int) tree.Entry {
	e := tree.Entry{Place: tree.Place{Key: key, Number: number}, Marker: number%4 == 0}
	if !e.Marker {
		e.Size, e.At = number%(api.MaxBody+1), number%api.MaxBlocks
	}
	return e
}

// order is the document's, byte by byte.
func order(a, b tree.Place) int {
	return cmp.Or(slices.Compare([]byte(a.Key), []byte(b.Key)), -cmp.Compare(a.Number, b.Number))
}

// grown gives a disk with a tree of these entries on it, taken in as they come, each by a change of its own.
func grown(t *testing.T, entries []tree.Entry) (*disk.Disk, int) {
	t.Helper()
	d, root := disk.New(api.MaxBlocks), 0
	for _, e := range entries {
		c := change.Begin(d)
		r := d.Reads()
		root = tree.Insert(c, root, e)
		if n := d.Reads() - r; n > 9 {
			t.Errorf("P11: Insert read %d blocks", n)
		}
		if c.Full() || !c.Commit() {
			t.Fatal("there is no room")
		}
	}
	return d, root
}

// orders gives the entries of many keys and numbers in some orders.
func orders() map[string][]tree.Entry {
	var keys, one, few []tree.Entry
	for i := range 400 {
		keys = append(keys, entry(fmt.Sprintf("k/%d", i), i+1))
		one = append(one, entry("one", i+1))
		few = append(few, entry(strings.Repeat("-", 1+i%8), i+1))
	}
	mixed := slices.Concat(keys, one, few)
	rand.New(rand.NewSource(1)).Shuffle(len(mixed), func(i, j int) { mixed[i], mixed[j] = mixed[j], mixed[i] })
	falling := slices.Clone(keys)
	slices.Reverse(falling)
	return map[string][]tree.Entry{"keys": keys, "falling": falling, "one": one, "few": few, "mixed": mixed, "none": nil, "single": keys[:1]}
}

func TestWalkIsInOrder(t *testing.T) {
	for name, entries := range orders() {
		d, root := grown(t, entries)
		want := slices.SortedFunc(slices.Values(entries), func(a, b tree.Entry) int { return order(a.Place, b.Place) })
		if got := slices.Collect(tree.Walk(d, root, tree.Place{})); !slices.Equal(got, want) {
			t.Errorf("%s: the walk gives %d entries of %d, or others", name, len(got), len(want))
		}
	}
}

func TestWalkFromEveryPlace(t *testing.T) {
	for name, entries := range orders() {
		d, root := grown(t, entries)
		all := slices.Collect(tree.Walk(d, root, tree.Place{}))
		var places []tree.Place
		for _, e := range entries {
			for _, n := range []int{e.Number - 1, e.Number, e.Number + 1, 0, math.MaxInt, math.MinInt} {
				places = append(places, tree.Place{Key: e.Key, Number: n})
			}
			places = append(places, tree.Place{Key: e.Key + "-", Number: e.Number}, tree.Place{Key: "zz", Number: 1})
		}
		for _, p := range places {
			i := 0
			for i < len(all) && order(all[i].Place, p) < 0 {
				i++
			}
			want := all[i:min(i+8, len(all))]
			r := d.Reads()
			var got []tree.Entry
			for e := range tree.Walk(d, root, p) {
				if len(got) == 0 && d.Reads()-r > 14 {
					t.Errorf("P11: %s: to the first entry from %v on %d blocks are read", name, p, d.Reads()-r)
				}
				if got = append(got, e); len(got) == 8 {
					break
				}
			}
			if !slices.Equal(got, want) {
				t.Fatalf("%s: from %v on: %v, not %v", name, p, got, want)
			}
		}
	}
}

// What LogBlocks counts with: how full nodes are, and how high the tree is.
func TestTreeIsFullAndLow(t *testing.T) {
	for name, entries := range orders() {
		d, root := grown(t, entries)
		isFullAndLow(t, name, d, root)
	}
}

func isFullAndLow(t *testing.T, name string, d *disk.Disk, root int) {
	t.Helper()
	depths := make(map[int]bool)
	var look func(at, depth int)
	look = func(at, depth int) {
		p := block.Page(d.Read(at))
		least := 3
		if at == root && p.Kind() == block.Branch {
			least = 2
		}
		if at == root && p.Kind() == block.Leaf {
			least = 1
		}
		if p.Count() < least || p.Count() > p.Kind().Room() {
			t.Errorf("%s: a node of kind %d has %d items", name, p.Kind(), p.Count())
		}
		if p.Kind() == block.Leaf {
			depths[depth] = true
			return
		}
		for i := range p.Count() {
			look(block.Number(p.Item(i)[block.PlaceBytes:]), depth+1)
		}
	}
	if root == 0 {
		return
	}
	look(root, 1)
	if len(depths) != 1 || depths[8] {
		t.Errorf("%s: the leaves are on the levels %v", name, depths)
	}
}

// without gives entries in some other orders, in which they are taken out.
func without(entries []tree.Entry) map[string][]tree.Entry {
	back := slices.Clone(entries)
	slices.Reverse(back)
	sorted := slices.SortedFunc(slices.Values(entries), func(a, b tree.Entry) int { return order(a.Place, b.Place) })
	falling := slices.Clone(sorted)
	slices.Reverse(falling)
	mixed := slices.Clone(entries)
	rand.New(rand.NewSource(2)).Shuffle(len(mixed), func(i, j int) { mixed[i], mixed[j] = mixed[j], mixed[i] })
	var thinned []tree.Entry
	for part := range 4 {
		for i := part; i < len(sorted); i += 4 {
			thinned = append(thinned, sorted[i])
		}
	}
	half := len(sorted) / 2
	outward := slices.Concat(sorted[half:], falling[len(falling)-half:])
	return map[string][]tree.Entry{"as grown": entries, "back": back, "sorted": sorted, "falling": falling, "mixed": mixed, "thinned": thinned, "outward": outward}
}

// Whatever the order, a removal takes out one entry and nothing else, takes no block, and leaves the tree full and low.
func TestRemoveInManyOrders(t *testing.T) {
	for name, entries := range orders() {
		grownDisk, grownRoot := grown(t, entries)
		for how, out := range without(entries) {
			name := name + ", " + how
			d, root := grownDisk.Copy(), grownRoot
			left := slices.SortedFunc(slices.Values(entries), func(a, b tree.Entry) int { return order(a.Place, b.Place) })
			for i, e := range out {
				root = removed(t, name, d, root, e)
				at := slices.Index(left, e)
				left = slices.Delete(left, at, at+1)
				if i%40 == 0 || len(left) < 20 {
					isFullAndLow(t, name, d, root)
					if got := slices.Collect(tree.Walk(d, root, tree.Place{})); !slices.Equal(got, left) {
						t.Fatalf("%s: the walk gives %d entries, not %d, or others", name, len(got), len(left))
					}
				}
			}
			if root != 0 {
				t.Errorf("%s: the tree of none has a root", name)
			}
			taken := block.Page(d.Read(block.MapAt))
			for i, b := range taken.Items() {
				if b != 0 {
					t.Fatalf("%s: blocks from %d on are still taken", name, block.DataAt+8*i)
				}
			}
			if t.Failed() {
				t.FailNow()
			}
		}
	}
}

// removed takes an entry out by a change of its own.
func removed(t *testing.T, name string, d *disk.Disk, root int, e tree.Entry) int {
	t.Helper()
	c := change.Begin(d)
	r := d.Reads()
	next, got, ok := tree.Remove(c, root, e.Place)
	if n := d.Reads() - r; n > 14 {
		t.Errorf("P11: %s: Remove read %d blocks", name, n)
	}
	if !ok || got != e {
		t.Fatalf("%s: instead of %v %v was taken out", name, e, got)
	}
	if c.Full() || !c.Commit() {
		t.Fatalf("P11: %s: Remove has no room", name)
	}
	return next
}

// Removals and insertions by turns.
func TestRemoveAndInsert(t *testing.T) {
	r := rand.New(rand.NewSource(3))
	for _, most := range []int{1, 2, 6, 7, 13, 50, 300} {
		d, root := grown(t, nil)
		var left []tree.Entry
		for i := range 1500 {
			if len(left) == 0 || len(left) < most && r.Intn(2) == 0 {
				e := entry(string("abc/-"[r.Intn(5)]), i+1)
				c := change.Begin(d)
				root = tree.Insert(c, root, e)
				if c.Full() || !c.Commit() {
					t.Fatal("there is no room")
				}
				left = append(left, e)
			} else {
				at := r.Intn(len(left))
				root = removed(t, fmt.Sprint(most), d, root, left[at])
				left = slices.Delete(left, at, at+1)
			}
			isFullAndLow(t, fmt.Sprint(most), d, root)
			want := slices.SortedFunc(slices.Values(left), func(a, b tree.Entry) int { return order(a.Place, b.Place) })
			if got := slices.Collect(tree.Walk(d, root, tree.Place{})); !slices.Equal(got, want) {
				t.Fatalf("of at most %d: the walk gives %d entries, not %d, or others", most, len(got), len(want))
			}
		}
	}
}

func TestRemoveOfWhatThereIsNot(t *testing.T) {
	for name, entries := range orders() {
		d, root := grown(t, entries)
		places := []tree.Place{{}, {Key: "zz", Number: 1}, {Key: "k", Number: 1}, {Key: "k/", Number: math.MaxInt}}
		for _, e := range entries {
			places = append(places, tree.Place{Key: e.Key, Number: 0}, tree.Place{Key: e.Key, Number: -e.Number}, tree.Place{Key: e.Key, Number: e.Number + 1000}, tree.Place{Key: e.Key, Number: math.MaxInt}, tree.Place{Key: e.Key, Number: math.MinInt}, tree.Place{Key: e.Key + "0", Number: e.Number + 1000})
		}
		for _, p := range places {
			c := change.Begin(d)
			if next, e, ok := tree.Remove(c, root, p); next != root || e != (tree.Entry{}) || ok {
				t.Fatalf("%s: Remove of %v gives %d, %v, %v", name, p, next, e, ok)
			}
			if !c.Commit() {
				t.Fatal("the disk died")
			}
		}
		if got := len(slices.Collect(tree.Walk(d, root, tree.Place{}))); got != len(entries) {
			t.Errorf("%s: there are %d entries, not %d", name, got, len(entries))
		}
	}
}

func TestEntriesLast(t *testing.T) {
	entries := []tree.Entry{
		{Place: tree.Place{Key: "a", Number: 1}},
		{Place: tree.Place{Key: "a/b-c/d0", Number: math.MaxInt}, Size: api.MaxBody, At: api.MaxBlocks - 1},
		{Place: tree.Place{Key: "b", Number: 1<<32 + 1}, Marker: true},
		{Place: tree.Place{Key: "c", Number: 1 << 32}, Size: 255, At: 256},
		{Place: tree.Place{Key: "c", Number: 3}, Size: 256, At: 255},
	}
	d, root := grown(t, entries)
	if got := slices.Collect(tree.Walk(d.Copy(), root, tree.Place{})); !slices.Equal(got, entries) {
		t.Errorf("the tree has %v", got)
	}
}

func TestInsertWithoutRoomIsFull(t *testing.T) {
	d, root := disk.New(api.MinBlocks), 0
	for i := 1; ; i++ {
		c := change.Begin(d)
		next := tree.Insert(c, root, entry("key", i))
		if c.Full() {
			if got := len(slices.Collect(tree.Walk(d, root, tree.Place{}))); got != i-1 || i < 2*(api.MinBlocks-block.DataAt) {
				t.Errorf("%d entries were taken in, %d are there", i-1, got)
			}
			return
		}
		c.Commit()
		root = next
	}
}
