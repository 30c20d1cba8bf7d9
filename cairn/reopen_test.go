package cairn_test

import (
	"math/rand"
	"testing"

	"cairn/api"
	"cairn/disk"
)

// reopenWays: nothing lasts, all, some; or there is no fall.
func reopenWays(r *rand.Rand) []way {
	return []way{fall(), fall(lasting(func(int) bool { return true })...), drawnFall(r, 2), revive}
}

func drawnWay(r *rand.Rand) way {
	all := reopenWays(r)
	return all[r.Intn(len(all))]
}

// everyReopening calls for each moment in which a change may die, and each way in which the disk may live then, with a model that is not opened yet.
func (c longChange) everyReopening(t *testing.T, r *rand.Rand, tell func(m *model)) {
	t.Helper()
	shapes()[c.shape].everyDeath(t, c.changeOf, func(m *model) {
		for _, live := range reopenWays(r) {
			f := m.fork()
			live(f.d)
			tell(f)
		}
	})
}

// The disk dies in opening, too, with every fuse: a later opening finds what was answered for, and all or nothing of the change that died. What an opening found that did not die stays.
func TestOpenDies(t *testing.T) {
	for _, c := range longChanges() {
		t.Run(c.shape, func(t *testing.T) {
			t.Parallel()
			r := rand.New(rand.NewSource(11))
			c.everyReopening(t, r, func(m *model) {
				for fuse, died := 0, true; died; fuse++ {
					f := m.fork()
					died = f.openDies(fuse)
					if !died {
						f.found(c.changeOf)
					}
					f.lives(c.changeOf, died, reopenWays(r))
				}
			})
		})
	}
}

// lives lets the disk live in several ways, and checks what is there then: if the opening died, what may be found behind the change; else what it found.
func (m *model) lives(c changeOf, died bool, ways []way) {
	m.t.Helper()
	for _, live := range ways {
		f := m.fork()
		live(f.d)
		if died {
			f.find(c)
		}
		f.still("an opening")
		f.d.Fall(nil)
		f.still("a fall")
	}
}

// Openings die one behind the other: two with every fuse that each may have, then some more.
func TestOpenDiesAgainAndAgain(t *testing.T) {
	for _, c := range longChanges() {
		t.Run(c.shape, func(t *testing.T) {
			t.Parallel()
			r := rand.New(rand.NewSource(12))
			c.everyReopening(t, r, func(m *model) {
				for first := 0; ; first++ {
					f := m.fork()
					if !f.openDies(first) {
						break
					}
					drawnWay(r)(f.d)
					f.diesOnceMore(c.changeOf, r)
				}
			})
		})
	}
}

// diesOnceMore lets an opening die with every fuse, and some further ones with fuses that are drawn.
func (m *model) diesOnceMore(c changeOf, r *rand.Rand) {
	m.t.Helper()
	for fuse := 0; ; fuse++ {
		f := m.fork()
		if !f.openDies(fuse) {
			return
		}
		for range r.Intn(4) {
			drawnWay(r)(f.d)
			if !f.openDies(r.Intn(fuse + 1)) {
				break
			}
		}
		drawnWay(r)(f.d)
		f.find(c)
		f.still("an opening")
	}
}

// A copy of a disk that died is as good as the disk: stores that are opened on both find the same.
func TestOpenOfCopyThatDied(t *testing.T) {
	for _, c := range longChanges() {
		c.everyReopening(t, rand.New(rand.NewSource(13)), func(m *model) {
			f := m.fork()
			f.find(c.changeOf)
			m.open(m.d)
			if !same(contents(t, m.s), contents(t, f.s)) {
				t.Fatalf("P4: behind %v a copy has something else than the disk", c.changeOf)
			}
		})
	}
}

// An opening finishes what is to be finished: the next one reads little, and needs one flush at most.
func TestOpenFinishes(t *testing.T) {
	for _, c := range longChanges() {
		c.everyReopening(t, rand.New(rand.NewSource(14)), func(m *model) {
			m.find(c.changeOf)
			if reads := m.d.Reads(); m.openDies(1) || m.d.Reads()-reads > 1 {
				t.Fatalf("behind %v an opening left something to be done", c.changeOf)
			}
		})
	}
}

// secondChanges are made behind another one, of the shape "few".
func secondChanges() []changeOf {
	return []changeOf{
		{key: "b", number: 1},
		{key: "b", marker: true},
		{key: "c", body: filled(api.MaxBody, 6)},
	}
}

// A change dies; a store is opened, with a fall or without; there another change dies, and the disk falls. The log of the one is not taken for the other's.
func TestTwoChangesDie(t *testing.T) {
	for _, first := range []changeOf{{key: "a", body: []byte("two")}, {key: "a", number: 2}} {
		for _, second := range secondChanges() {
			t.Run(first.String()+second.String(), func(t *testing.T) {
				t.Parallel()
				r := rand.New(rand.NewSource(15))
				shapes()["few"].everyDeath(t, first, func(m *model) {
					for _, live := range reopenWays(r) {
						dieBehind(second, append(singleWays(), ways(r)...), func() *model {
							f := m.fork()
							live(f.d)
							f.find(first)
							return f
						})
					}
				})
			})
		}
	}
}

// dieBehind lets a change die with every fuse, each time on a store that was opened just now.
func dieBehind(c changeOf, ways []way, opened func() *model) {
	for fuse, died := 0, true; died; fuse++ {
		m := opened()
		m.t.Helper()
		died = m.dies(c, fuse)
		for _, live := range ways {
			f := m.fork()
			live(f.d)
			f.find(c)
			f.still("an opening")
		}
	}
}

// A store is opened on a disk that is dead still. Where that is answered OK, it is a store as any other once the disk lives.
func TestOpenWhileDead(t *testing.T) {
	r := rand.New(rand.NewSource(16))
	first := changeOf{key: "a", body: []byte("two")}
	for _, second := range secondChanges() {
		shapes()["few"].everyDeath(t, first, func(m *model) {
			if f := m.fork(); f.openDies(0) {
				f.lives(first, true, ways(r))
				return
			}
			dieBehind(second, append(singleWays(), ways(r)...), func() *model {
				f := m.fork()
				f.openDies(0)
				f.found(first)
				return f
			})
		})
	}
}

// On a disk of noughts that is dead, Open may find nothing to write, but a Put finds out.
func TestOpenOfDeadDisk(t *testing.T) {
	for fuse := range 3 {
		m := &model{t: t, d: disk.New(api.MinBlocks)}
		if m.openDies(fuse) {
			m.d.Fall(nil)
			m.still("a fall")
			continue
		}
		m.d.Fuse(0)
		if n, e := m.s.Put("a", nil); n != 0 || e != api.ErrDead {
			t.Errorf("P5: Put on a dead disk is %d, %d", n, e)
		}
		isShut(t, m.s)
	}
}
