package cairn_test

import (
	"bytes"
	"fmt"
	"slices"
	"testing"

	"cairn/api"
	"cairn/block"
	"cairn/cairn"
	"cairn/disk"
)

// shape is a store for changes to die on. It is made anew for every death, and not opened once more ahead of it: what the changes before left unflushed is so still.
type shape struct {
	blocks int
	build  func(m *model)
}

func (s shape) make(t *testing.T) *model {
	t.Helper()
	m := newModel(t, s.blocks)
	s.build(m)
	return m
}

// rising puts so many versions, each behind all others in their order: no node is fuller than a split leaves it, but for the last ones, which are filled up together now and then.
func rising(count int, size func(i int) int) func(m *model) {
	return func(m *model) {
		for i := range count {
			m.put(fmt.Sprintf("k%04d", i), filled(size(i), i))
		}
	}
}

func noBytes(int) int { return 0 }

// How many versions, put in rising order, fill up the last nodes of a tree of 1, 2, 3, 4 levels, so that the next one splits every level.
const (
	fullLeaf  = 6
	fullTwo   = fullLeaf + 5*3
	fullThree = fullTwo + 5*9
	fullFour  = fullThree + 5*27
)

func shapes() map[string]shape {
	return map[string]shape{
		"nothing": {api.MinBlocks, func(m *model) {}},
		"emptied": {api.MinBlocks, func(m *model) {
			m.put("b", filled(200, 1))
			m.delete("b")
			m.erase(0)
			m.erase(0)
		}},
		"one": {api.MinBlocks, func(m *model) { m.put("b", []byte("one")) }},
		"few": {api.MinBlocks, func(m *model) {
			m.put("b", []byte("one"))
			m.put("a", filled(api.MaxBody, 2))
			m.put("b", nil)
			m.delete("a")
		}},
		"full leaf": {api.MinBlocks, rising(fullLeaf, func(i int) int { return i * 20 })},
		"thin leaves": {api.MinBlocks, func(m *model) {
			rising(fullLeaf+1, noBytes)(m)
			m.erase(fullLeaf)
		}},
		"some": {200, func(m *model) {
			for i := range 21 {
				m.put([]string{"b", "c", "a"}[i%3], filled(i*14, i))
			}
			m.delete("c")
		}},
		"thin tree": {200, rising(fullThree+1, func(i int) int { return i % 10 / 9 * 150 })},
		"full tree": {200, rising(fullThree, noBytes)},
		"high tree": {450, rising(fullFour, noBytes)},
		"used": {api.MinBlocks + 16, func(m *model) {
			for i := 0; m.put(fmt.Sprint("k", i*5%7), filled(i*67%301, i)); i++ {
			}
			for i := 0; i < len(m.versions); i++ {
				m.erase(i)
			}
			m.put("k3", filled(250, 77))
		}},
		"no room": {api.MinBlocks, func(m *model) {
			for size := api.MaxBody; size >= 0; size -= 100 {
				for i := 0; m.put(fmt.Sprint("k", i%5), filled(size, i)); i++ {
				}
			}
		}},
	}
}

// changeOf is a change that may die.
type changeOf struct {
	key    string
	number int    // that is erased; 0: it is no Erase
	marker bool   // it is a Delete
	body   []byte // that is put
}

func (c changeOf) String() string {
	switch {
	case c.number != 0:
		return fmt.Sprintf("Erase(%q, %d)", c.key, c.number)
	case c.marker:
		return fmt.Sprintf("Delete(%q)", c.key)
	}
	return fmt.Sprintf("Put(%q, %d bytes)", c.key, len(c.body))
}

func (c changeOf) call(s *cairn.Store) (int, api.Errno) {
	switch {
	case c.number != 0:
		return 0, s.Erase(c.key, c.number)
	case c.marker:
		return s.Delete(c.key)
	}
	return s.Put(c.key, c.body)
}

// behind gives what is there behind the change: one version less, or one more, of this number.
func (c changeOf) behind(versions []version, number int) []version {
	if c.number != 0 {
		return slices.DeleteFunc(slices.Clone(versions), func(v version) bool { return v.number == c.number })
	}
	return append(slices.Clone(versions), version{key: c.key, number: number, marker: c.marker, body: c.body})
}

// changesOn gives changes of every kind for a store: at both ends of the order and between them, with no bytes and with as many as there may be; of many versions few, for each costs much.
func changesOn(m *model) []changeOf {
	var all []changeOf
	for _, key := range []string{"-", "k0017", "zzzzzzzz"} {
		all = append(all, changeOf{key: key}, changeOf{key: key, body: filled(api.MaxBody, 99)})
	}
	for i := 0; i < len(m.versions); i += 1 + len(m.versions)*len(m.versions)/600 {
		v := m.versions[i]
		all = append(all, changeOf{key: v.key, number: v.number})
		if newest, _ := m.newest(v.key); newest.number == v.number && !v.marker {
			all = append(all, changeOf{key: v.key, marker: true})
		}
	}
	return all
}

// longChange is a change that touches much of a shape, or all there is.
type longChange struct {
	shape string
	changeOf
}

func longChanges() []longChange {
	return []longChange{
		{"nothing", changeOf{key: "a", body: filled(150, 3)}},
		{"one", changeOf{key: "b", number: 1}},
		{"few", changeOf{key: "k", body: filled(api.MaxBody, 4)}},
		{"some", changeOf{key: "b", marker: true}},
		{"thin tree", changeOf{key: "k0000", number: 1}},
		{"full tree", changeOf{key: "zzzzzzzz", body: filled(api.MaxBody, 5)}},
	}
}

// contents gives all that a store has, as it tells it.
func contents(t *testing.T, s *cairn.Store) []version {
	t.Helper()
	var all []version
	for _, v := range told(s) {
		b, e := s.At(v.Key, v.Number)
		if v.Marker != (e == api.ErrNone) || !v.Marker && e != api.OK || len(b) != v.Size {
			t.Fatalf("P9: At(%q, %d) is %s, %d, but List tells %v", v.Key, v.Number, show(b), e, v)
		}
		all = append(all, version{key: v.Key, number: v.Number, marker: v.Marker, body: b})
	}
	return all
}

// told gives all versions of a store.
func told(s *cairn.Store) []api.Version {
	var all []api.Version
	for key, number := "", 0; ; {
		p, _ := s.List("", key, number, api.MaxPage)
		all = append(all, p.Versions...)
		if !p.More {
			return all
		}
		key, number = all[len(all)-1].Key, all[len(all)-1].Number
	}
}

func same(a, b []version) bool {
	return slices.EqualFunc(a, b, func(a, b version) bool {
		return a.key == b.key && a.number == b.number && a.marker == b.marker && bytes.Equal(a.body, b.body)
	})
}

// touched tells how many blocks of the tree and of bodies differ.
func touched(a, b *disk.Disk) int {
	n := 0
	for at := block.DataAt; at < a.Blocks(); at++ {
		if a.Read(at) != b.Read(at) {
			n++
		}
	}
	return n
}

// The shapes are what they are said to be: changes split and join on every level there.
func TestShapes(t *testing.T) {
	for name, want := range map[string]int{"nothing": 1, "one": 1, "full leaf": 3, "full tree": 7, "high tree": 9} {
		was := shapes()[name].make(t)
		m := was.copied()
		m.put("zzzzzzzz", nil)
		if n := touched(was.d, m.d); n != want {
			t.Errorf("%s: a Put touches %d blocks, not %d", name, n, want)
		}
	}
	for name, want := range map[string]int{"one": 2, "thin leaves": 2, "thin tree": 4} {
		was := shapes()[name].make(t)
		m := was.copied()
		m.erase(0)
		if n := taken(was.d) - taken(m.d); n != want {
			t.Errorf("%s: an Erase gives back %d blocks, not %d", name, n, want)
		}
	}
}
