package cairn_test

import (
	"fmt"
	"math/rand"
	"slices"
	"sync"
	"testing"

	"cairn/api"
)

// Changes die one behind the other, each with every fuse; what is told then is a new number, and greater than the last one by not more than the document lets. (The model holds every number against that.)
func TestNumbersBehindDeaths(t *testing.T) {
	r := rand.New(rand.NewSource(21))
	for deaths := 1; deaths <= 5; deaths++ {
		for fuse := range manyWrites {
			m := shapes()["few"].make(t)
			for i := range deaths {
				c := []changeOf{{key: "c", body: filled(9, i)}, {key: "b", marker: true}, {key: "b", number: 1}}[(i+fuse)%3]
				if !m.dieOrNone(c, fuse) {
					continue
				}
				drawnWay(r)(m.d)
				m.find(c)
			}
			m.d.Fuse(-1)
			m.put("next", nil)
			m.put("next", nil)
			m.check()
			m.checkCopy()
		}
	}
}

// dieOrNone is dies; but a change that there is nothing for (any more) is not made.
func (m *model) dieOrNone(c changeOf, fuse int) bool {
	m.t.Helper()
	if c.marker && !m.something(c.key) || c.number != 0 && !m.hasNumber(c.number) {
		return false
	}
	return m.dies(c, fuse)
}

func (m *model) hasNumber(number int) bool {
	return slices.ContainsFunc(m.versions, func(v version) bool { return v.number == number })
}

// A version that was found behind a Put that died is erased, with others, or all are: its number is not given again, nor one that was told.
func TestNumbersOfErasedBehindDeaths(t *testing.T) {
	c := changeOf{key: "c", body: filled(150, 7)}
	for _, name := range []string{"nothing", "emptied", "one", "few"} {
		shapes()[name].everyDeath(t, c, func(m *model) {
			m.d.Fall(nil)
			m.find(c)
			given := m.greatest()
			for len(m.versions) > 0 {
				m.erase(len(m.versions) - 1)
				m.d.Fall(nil)
				m.still("an Erase")
			}
			m.put("c", nil)
			if m.last <= given {
				t.Errorf("P6: the number %d is told, and %d was there", m.last, given)
			}
		})
	}
}

// Many changes of all kinds, of which many die, with openings that die, with falls and without: what must be there is there, numbers rise, and no room is lost.
func TestDeathsDrawn(t *testing.T) {
	for seed := range int64(80) {
		t.Run(fmt.Sprint(seed), func(t *testing.T) {
			t.Parallel()
			r := rand.New(rand.NewSource(seed))
			m := newModel(t, api.MinBlocks+r.Intn(1+r.Intn(300)))
			for i := range 150 {
				m.drawnDeath(r, m.drawnChange(r, i))
			}
			m.d.Fuse(-1)
			m.check()
			m.checkCopy()
			if a, b := taken(m.d), used(m.d); a != b {
				t.Errorf("P11: %d blocks are taken, %d are used", a, b)
			}
			for len(m.versions) > 0 && r.Intn(20) > 0 {
				m.erase(r.Intn(len(m.versions)))
			}
			for i := 0; m.mustFit(api.MaxBody); i++ {
				m.put(drawnKey(r), filled(api.MaxBody, i))
			}
			m.check()
		})
	}
}

// drawnChange gives a change that there is something for.
func (m *model) drawnChange(r *rand.Rand, seed int) changeOf {
	key := drawnKey(r)
	n := r.Intn(10)
	if n < 4 && len(m.versions) > 0 {
		v := m.versions[r.Intn(len(m.versions))]
		return changeOf{key: v.key, number: v.number}
	}
	if n < 6 && m.something(key) {
		return changeOf{key: key, marker: true}
	}
	return changeOf{key: key, body: filled(r.Intn(1+r.Intn(api.MaxBody+1)), seed)}
}

// drawnFuse gives a fuse, or none.
func drawnFuse(r *rand.Rand) int {
	if r.Intn(2) == 0 {
		return -1
	}
	return r.Intn(manyWrites)
}

// drawnDeath makes a change that may die; then the store is opened again, perhaps behind openings that die, too.
func (m *model) drawnDeath(r *rand.Rand, c changeOf) {
	m.t.Helper()
	if m.dies(c, drawnFuse(r)) {
		isShut(m.t, m.s)
		drawnWay(r)(m.d)
		for m.openDies(drawnFuse(r)) {
			drawnWay(r)(m.d)
		}
		m.found(c)
	}
	if r.Intn(3) == 0 {
		drawnWay(r)(m.d)
		m.still(c.String())
	}
}

// Several callers, and a disk that dies under them: one of them is told so, later ones that the store is shut. Whatever they were told is there.
func TestDyingUnderSeveral(t *testing.T) {
	const callers, each = 6, 8
	r := rand.New(rand.NewSource(22))
	for fuse := 0; fuse < 1000; fuse += 7 {
		m := newModel(t, api.MaxBlocks)
		m.d.Fuse(fuse)
		var puts [callers * each]answered
		var w sync.WaitGroup
		for k := range callers {
			w.Go(func() {
				for i := range each {
					c := changeOf{key: fmt.Sprint("k", k), body: filled(i*20, k*each+i)}
					n, e := c.call(m.s)
					puts[k*each+i] = answered{c, n, e}
				}
			})
		}
		w.Wait()
		died := m.take(puts[:])
		drawnWay(r)(m.d)
		m.find(died)
		m.still("an opening")
	}
}

// answered is a Put, and what its call answered.
type answered struct {
	put    changeOf
	number int
	errno  api.Errno
}

// take makes Puts that were answered in any order what must be there, and gives the one that died, if one did.
func (m *model) take(puts []answered) changeOf {
	m.t.Helper()
	var died changeOf
	var versions []version
	shut := 0
	for _, a := range puts {
		switch {
		case a.errno == api.OK:
			versions = a.put.behind(versions, a.number)
		case a.errno == api.ErrDead && a.number == 0:
			died = a.put
			m.dead++
		case a.errno == api.ErrShut && a.number == 0:
			shut++
		default:
			m.t.Errorf("P5: %v is %d, %d", a.put, a.number, a.errno)
		}
	}
	if m.dead > 1 || shut > 0 && m.dead == 0 {
		m.t.Fatalf("P5: %d Puts are answered ErrDead, and %d ErrShut", m.dead, shut)
	}
	slices.SortFunc(versions, func(a, b version) int { return a.number - b.number })
	for i, v := range versions {
		if v.number != i+1 {
			m.t.Fatalf("P6: the numbers are not those from 1 to %d", len(versions))
		}
	}
	m.has(versions)
	m.last = len(versions)
	return died
}
