package cairn_test

import (
	"fmt"
	"testing"

	"cairn/api"
	"cairn/cairn"
	"cairn/disk"
)

func TestOpenSizes(t *testing.T) {
	for blocks := range api.MaxBlocks + 1 {
		s, e := cairn.Open(disk.New(blocks))
		if blocks < api.MinBlocks && (s != nil || e != api.ErrSmall) || blocks >= api.MinBlocks && (s == nil || e != api.OK) {
			t.Errorf("P4: Open of %d blocks is %v, %d", blocks, s, e)
		}
	}
	for _, d := range []*disk.Disk{nil, new(disk.Disk), disk.New(-1), disk.New(api.MaxBlocks + 1)} {
		if s, e := cairn.Open(d); s != nil || e != api.ErrSmall {
			t.Errorf("P4: Open of no blocks is %v, %d", s, e)
		}
	}
}

// A disk that is too small and dead: the error that is named first.
func TestOpenSmallAheadOfDead(t *testing.T) {
	d := disk.New(api.MinBlocks - 1)
	d.Fuse(0)
	if s, e := cairn.Open(d); s != nil || e != api.ErrSmall {
		t.Errorf("P4: Open is %v, %d", s, e)
	}
}

func TestOpenOfNoughtsHasNothing(t *testing.T) {
	m := newModel(t, api.MinBlocks)
	for _, key := range []string{"a", "b", "zzzzzzzz", "/", "00000000"} {
		m.get(key, nil, 0, api.ErrNone)
		for _, n := range []int{-1, 0, 1, 2} {
			m.at(key, n, nil, api.ErrNone)
		}
	}
	m.put("a", nil)
}

func TestOpenWithoutPutsChangesNothing(t *testing.T) {
	d := disk.New(api.MinBlocks)
	for range 5 {
		open(t, d)
	}
	m := &model{t: t}
	m.open(d)
	m.put("a", filled(5, 1))
	m.check()
}

// Whatever was put is found by a store that is opened later, on the disk or on a copy, whether power goes or not; and numbers go on.
func TestOpenFindsWhatWasPut(t *testing.T) {
	m := newModel(t, 300)
	for i := range 60 {
		m.put(fmt.Sprintf("k%d", i*7%20), filled(i*5, i))
		if i%4 == 0 {
			m.open(m.d)
		}
		if i%4 == 1 {
			m.open(m.d.Copy())
		}
		if i%4 == 2 {
			m.d.Fall(nil)
			m.open(m.d)
		}
		m.check()
	}
}

func TestOpenOfCopiesGoApart(t *testing.T) {
	m := newModel(t, 100)
	m.put("a", []byte("first"))
	other := m.copied()
	m.put("a", []byte("one way"))
	other.put("b", []byte("the other"))
	m.check()
	other.check()
	m.get("b", nil, 0, api.ErrNone)
	other.get("a", []byte("first"), 1, api.OK)
}
