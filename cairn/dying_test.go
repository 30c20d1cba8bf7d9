package cairn_test

import (
	"math/rand"
	"reflect"
	"testing"

	"cairn/api"
	"cairn/block"
	"cairn/cairn"
	"cairn/disk"
)

// way is how a disk that died comes to life again.
type way func(d *disk.Disk)

// fall is the power going; of what was not flushed some lasts.
func fall(keep ...bool) way {
	return func(d *disk.Disk) { d.Fall(keep) }
}

// revive: the disk did not fall, what was not flushed may yet be lost.
func revive(d *disk.Disk) { d.Fuse(-1) }

// manyWrites are more than may be unflushed at a time. No call does twice as many writes and flushes.
const manyWrites = 2 * block.LogBlocks

// lasting gives a choice among what was not flushed.
func lasting(lasts func(i int) bool) []bool {
	keep := make([]bool, manyWrites)
	for i := range keep {
		keep[i] = lasts(i)
	}
	return keep
}

// drawnFall draws at each fall a choice in which one of so many lasts.
func drawnFall(r *rand.Rand, oneOf int) way {
	return func(d *disk.Disk) { d.Fall(lasting(func(int) bool { return r.Intn(oneOf) == 0 })) }
}

// ways: nothing lasts, all of it, the one or the other half, some; or there is no fall.
func ways(r *rand.Rand) []way {
	return []way{
		fall(),
		fall(lasting(func(int) bool { return true })...),
		fall(lasting(func(i int) bool { return i%2 == 0 })...),
		fall(lasting(func(i int) bool { return i%2 == 1 })...),
		drawnFall(r, 2),
		drawnFall(r, 2),
		drawnFall(r, 4),
		revive,
	}
}

// singleWays: one of the writes lasts alone, or is lost alone.
func singleWays() []way {
	var all []way
	for one := range block.LogBlocks {
		all = append(all, fall(lasting(func(i int) bool { return i == one })...), fall(lasting(func(i int) bool { return i != one })...))
	}
	return all
}

// dies makes a change on a disk that does so many more writes and flushes, and tells whether it died. It stays dead.
func (m *model) dies(c changeOf, fuse int) bool {
	m.t.Helper()
	m.d.Fuse(fuse)
	n, e := c.call(m.s)
	switch {
	case e == api.ErrDead && n == 0 && mayDie(fuse):
		m.dead++
		return true
	case c.number == 0:
		m.added(c.String(), version{key: c.key, number: n, marker: c.marker, body: c.body}, e)
	case e != api.OK:
		m.t.Fatalf("P8: %v with the fuse %d is %d", c, fuse, e)
	default:
		m.has(c.behind(m.versions, 0))
	}
	return false
}

// mayDie tells whether a disk with such a fuse dies within a call, so that no test tries further ones without end.
func mayDie(fuse int) bool { return 0 <= fuse && fuse < 2*manyWrites }

// has makes these the versions that must be there.
func (m *model) has(versions []version) {
	m.versions, m.weight = versions, 0
	for _, v := range versions {
		m.weight += weigh(len(v.body))
	}
}

// find opens the disk and goes on with what is there. It tells whether the change that died last is.
func (m *model) find(c changeOf) bool {
	m.t.Helper()
	m.open(m.d)
	return m.found(c)
}

// found goes on with what a store that was opened behind a change tells: all that was answered for and, where the change died, all or nothing of it.
func (m *model) found(c changeOf) bool {
	m.t.Helper()
	got := contents(m.t, m.s)
	if same(got, inOrder(m.versions)) {
		return false
	}
	for number := m.greatest() + 1; number <= m.last+m.dead; number++ {
		if now := c.behind(m.versions, number); same(got, inOrder(now)) {
			m.has(now)
			return true
		}
	}
	m.t.Fatalf("P5: behind %v, and %d changes that died, there is neither all nor nothing of it: %d versions, %d ahead of it", c, m.dead, len(got), len(m.versions))
	return false
}

// still opens the disk: there is what there was, and nothing else.
func (m *model) still(when string) {
	m.t.Helper()
	m.open(m.d)
	if !same(contents(m.t, m.s), inOrder(m.versions)) {
		m.t.Fatalf("P5: behind %s there is something else than before", when)
	}
}

// stays checks that what was found is found again, behind openings that die, falls, and openings without a fall, and that changes go on behind it.
func (m *model) stays(r *rand.Rand) {
	m.t.Helper()
	for fuse := 0; m.openDies(fuse); fuse++ {
		drawnFall(r, 2)(m.d)
		m.still("an opening that died, and a fall")
	}
	revive(m.d)
	m.open(m.d)
	m.put("next", []byte("one"))
	drawnFall(r, 2)(m.d)
	m.still("openings, a Put, and a fall")
}

// openDies opens a store on a disk that does so many more writes and flushes, and tells whether it died. It stays dead, or as near to it as it is.
func (m *model) openDies(fuse int) bool {
	m.t.Helper()
	m.d.Fuse(fuse)
	reads := m.d.Reads()
	s, e := cairn.Open(m.d)
	if (s == nil) != (e == api.ErrDead) || s != nil && e != api.OK || s == nil && !mayDie(fuse) {
		m.t.Fatalf("P4: Open with the fuse %d is %v, %d", fuse, s, e)
	}
	if n := m.d.Reads() - reads; n > 2*m.d.Blocks() {
		m.t.Errorf("P11: Open with the fuse %d read %d blocks", fuse, n)
	}
	m.s = s
	return s == nil
}

// everyDeath makes a change on a shape with every fuse from 0 on, up to the one with which it does not die; that one is told, too.
func (s shape) everyDeath(t *testing.T, c changeOf, tell func(m *model)) {
	t.Helper()
	for fuse := 0; ; fuse++ {
		m := s.make(t)
		died := m.dies(c, fuse)
		if died {
			isShut(t, m.s)
		} else if !same(contents(t, m.s), inOrder(m.versions)) {
			t.Fatalf("P6 to P8: %v with the fuse %d is answered for, and not there", c, fuse)
		}
		tell(m)
		if !died {
			return
		}
	}
}

// A disk that dies in a change shuts the store; the next one finds the change, or nothing of it, and so do all that are opened later.
func TestChangeDies(t *testing.T) {
	for name, s := range shapes() {
		t.Run(name, func(t *testing.T) {
			t.Parallel()
			r := rand.New(rand.NewSource(5))
			for _, c := range changesOn(s.make(t)) {
				s.dieInEveryWay(t, c, r, ways(r))
			}
		})
	}
}

// Of what was not flushed, one write lasts alone, or is lost alone.
func TestChangeDiesAndOneWriteLasts(t *testing.T) {
	for _, c := range longChanges() {
		t.Run(c.shape, func(t *testing.T) {
			t.Parallel()
			shapes()[c.shape].dieInEveryWay(t, c.changeOf, rand.New(rand.NewSource(6)), singleWays())
		})
	}
}

func (s shape) dieInEveryWay(t *testing.T, c changeOf, r *rand.Rand, ways []way) {
	t.Helper()
	died, found := 0, 0
	s.everyDeath(t, c, func(m *model) {
		for _, live := range ways {
			f := m.fork()
			live(f.d)
			if f.find(c) {
				found++
			}
			died += f.dead
			f.stays(r)
		}
	})
	// Where there is no room, nothing dies. Else the change is there from some moment on, and not ahead of it.
	if died > 0 && (found == 0 || found == died) {
		t.Errorf("P5: %v died %d times and was found %d times", c, died, found)
	}
}

// The disk falls, and lives: a store that is shut is so still.
func TestShutStaysShut(t *testing.T) {
	for _, c := range longChanges() {
		for _, live := range ways(rand.New(rand.NewSource(7))) {
			m := shapes()[c.shape].make(t)
			if !m.dies(c.changeOf, 3) {
				t.Fatalf("P5: %v needs no more than 3 writes", c)
			}
			isShut(t, m.s)
			live(m.d)
			isShut(t, m.s)
		}
	}
}

// The document's example of dying.
func TestDyingExample(t *testing.T) {
	for _, live := range ways(rand.New(rand.NewSource(8))) {
		m := newModel(t, api.MinBlocks)
		m.put("b", []byte("one"))
		c := changeOf{key: "b", body: []byte("two")}
		if !m.dies(c, 0) {
			t.Fatal("P5: Put on a dead disk is answered for")
		}
		if b, n, e := m.s.Get("b"); b != nil || n != 0 || e != api.ErrShut {
			t.Errorf("P5: Get is %q, %d, %d", b, n, e)
		}
		live(m.d)
		m.find(c)
		m.checkGet("b")
		m.d.Fall(nil)
		m.still("the next fall")
		m.checkGet("b")
	}
}

// What does not write does not notice that the disk is dead, and shuts nothing.
func TestRefusalsOnDeadDisk(t *testing.T) {
	m := shapes()["some"].make(t)
	m.d.Fuse(0)
	m.deleteNone("B", api.ErrKey)
	m.deleteNone("c", api.ErrNone)
	m.deleteNone("none", api.ErrNone)
	m.eraseNone("B", 1, api.ErrKey)
	m.eraseNone("b", 2, api.ErrNone)
	m.check()
	if n, e := m.s.Delete("b"); n != 0 || e != api.ErrDead {
		t.Errorf("P7: Delete on a dead disk is %d, %d", n, e)
	}
	isShut(t, m.s)
}

// isShut asks a store that is shut for everything: errors that come ahead of ErrShut still do.
func isShut(t *testing.T, s *cairn.Store) {
	t.Helper()
	for _, c := range []struct {
		key  string
		size int
		want api.Errno
	}{{"b", 1, api.ErrShut}, {"B", 1, api.ErrKey}, {"b", 301, api.ErrLong}, {"B", 301, api.ErrKey}} {
		if n, e := s.Put(c.key, make([]byte, c.size)); n != 0 || e != c.want {
			t.Errorf("P5: Put(%q, %d bytes) is %d, %d, not %d", c.key, c.size, n, e, c.want)
		}
	}
	for key, want := range map[string]api.Errno{"b": api.ErrShut, "none": api.ErrShut, "B": api.ErrKey, "": api.ErrKey} {
		if b, n, e := s.Get(key); b != nil || n != 0 || e != want {
			t.Errorf("P5: Get(%q) is %q, %d, %d, not %d", key, b, n, e, want)
		}
		if b, e := s.At(key, 1); b != nil || e != want {
			t.Errorf("P5: At(%q, 1) is %q, %d, not %d", key, b, e, want)
		}
		if n, e := s.Delete(key); n != 0 || e != want {
			t.Errorf("P5: Delete(%q) is %d, %d, not %d", key, n, e, want)
		}
		for _, n := range []int{1, -1} {
			if e := s.Erase(key, n); e != want {
				t.Errorf("P5: Erase(%q, %d) is %d, not %d", key, n, e, want)
			}
		}
	}
	for _, c := range []struct {
		prefix, key  string
		number, most int
		want         api.Errno
	}{{"", "", 0, 1, api.ErrShut}, {"b", "b", 1, 50, api.ErrShut}, {"B", "", 0, 1, api.ErrKey}, {"", "B", -1, 0, api.ErrKey}, {"", "b", -1, 1, api.ErrArg}, {"b", "", 0, 51, api.ErrArg}} {
		if p, e := s.List(c.prefix, c.key, c.number, c.most); !reflect.DeepEqual(p, api.Page{}) || e != c.want {
			t.Errorf("P5: List(%q, %q, %d, %d) is %v, %d, not %d", c.prefix, c.key, c.number, c.most, p, e, c.want)
		}
	}
}
