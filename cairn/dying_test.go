package cairn_test

import (
	"fmt"
	"math/rand"
	"reflect"
	"slices"
	"testing"

	"cairn/api"
	"cairn/cairn"
)

// full gives a store with versions of three keys, the newest of one of which is a marker.
func full(t *testing.T) *model {
	m := newModel(t, 200)
	for i := range 21 {
		m.put([]string{"b", "c", "a"}[i%3], filled(i*14, i))
	}
	m.delete("c")
	return m
}

// changeOf is a change, as a call and as what the model says of it.
type changeOf struct {
	call  func(s *cairn.Store) (int, api.Errno)
	model func(m *model)
}

func changes() map[string]changeOf {
	all := map[string]changeOf{
		"Put": {
			func(s *cairn.Store) (int, api.Errno) { return s.Put("b", filled(api.MaxBody, 8)) },
			func(m *model) { m.put("b", filled(api.MaxBody, 8)) },
		},
		"Delete": {
			func(s *cairn.Store) (int, api.Errno) { return s.Delete("b") },
			func(m *model) { m.delete("b") },
		},
	}
	for i := range 22 {
		all[fmt.Sprint("Erase", i)] = changeOf{
			func(s *cairn.Store) (int, api.Errno) {
				if i == 21 {
					return 0, s.Erase("c", 22)
				}
				return 0, s.Erase([]string{"b", "c", "a"}[i%3], i+1)
			},
			func(m *model) { m.erase(i) },
		}
	}
	return all
}

// A disk that dies in a change shuts the store; the next one finds the change, or nothing of it, and so do all that are opened later.
func TestChangeOnDyingDisk(t *testing.T) {
	r := rand.New(rand.NewSource(5))
	for name, c := range changes() {
		before := full(t)
		after := before.copied()
		c.model(after)
		found := make(map[*model]int)
		for fuse := 0; ; fuse++ {
			m := before.copied()
			m.d.Fuse(fuse)
			n, e := c.call(m.s)
			if e == api.OK {
				m.d.Fuse(-1)
				after.goOn(m)
				break
			}
			if n != 0 || e != api.ErrDead {
				t.Fatalf("P5: %s with the fuse %d is %d, %d", name, fuse, n, e)
			}
			isShut(t, m.s)
			for range 4 {
				fallen := &model{t: t, d: m.d.Copy()}
				fallen.d.Fall([]bool{r.Intn(2) == 0, r.Intn(2) == 0, r.Intn(2) == 0, r.Intn(2) == 0, r.Intn(2) == 0, r.Intn(2) == 0})
				fallen.open(fallen.d)
				is := before
				if slices.Equal(told(fallen.s), after.sorted()) {
					is = after
				}
				found[is]++
				is.goOn(fallen)
			}
			m.d.Fall(nil)
			isShut(t, m.s)
		}
		if found[before] == 0 || found[after] == 0 {
			t.Errorf("P5: %s was found %d times, and not found %d times", name, found[after], found[before])
		}
	}
}

// goOn checks that a store has what this model has, and goes on having it.
func (m *model) goOn(on *model) {
	m.t.Helper()
	on.versions, on.last, on.weight = slices.Clone(m.versions), m.last, m.weight
	on.check()
	on.d.Fall(nil)
	on.open(on.d)
	on.check()
	on.put("next", []byte("one"))
	on.checkCopy()
}

// told gives all versions of a store.
func told(s *cairn.Store) []api.Version {
	var all []api.Version
	for key, number := "", 0; ; {
		p, _ := s.List("", key, number, api.MaxPage)
		all = append(all, p.Versions...)
		if !p.More {
			return all
		}
		key, number = all[len(all)-1].Key, all[len(all)-1].Number
	}
}

// What does not write does not notice that the disk is dead, and shuts nothing.
func TestRefusalsOnDeadDisk(t *testing.T) {
	m := full(t)
	m.d.Fuse(0)
	m.deleteNone("B", api.ErrKey)
	m.deleteNone("c", api.ErrNone)
	m.deleteNone("none", api.ErrNone)
	m.eraseNone("B", 1, api.ErrKey)
	m.eraseNone("b", 2, api.ErrNone)
	m.check()
	if n, e := m.s.Delete("b"); n != 0 || e != api.ErrDead {
		t.Errorf("P7: Delete on a dead disk is %d, %d", n, e)
	}
	isShut(t, m.s)
}

// isShut asks a store that is shut for everything: errors that come ahead of ErrShut still do.
func isShut(t *testing.T, s *cairn.Store) {
	t.Helper()
	for _, c := range []struct {
		key  string
		size int
		want api.Errno
	}{{"b", 1, api.ErrShut}, {"B", 1, api.ErrKey}, {"b", 301, api.ErrLong}, {"B", 301, api.ErrKey}} {
		if n, e := s.Put(c.key, make([]byte, c.size)); n != 0 || e != c.want {
			t.Errorf("P5: Put(%q, %d bytes) is %d, %d, not %d", c.key, c.size, n, e, c.want)
		}
	}
	for key, want := range map[string]api.Errno{"b": api.ErrShut, "none": api.ErrShut, "B": api.ErrKey, "": api.ErrKey} {
		if b, n, e := s.Get(key); b != nil || n != 0 || e != want {
			t.Errorf("P5: Get(%q) is %q, %d, %d, not %d", key, b, n, e, want)
		}
		if b, e := s.At(key, 1); b != nil || e != want {
			t.Errorf("P5: At(%q, 1) is %q, %d, not %d", key, b, e, want)
		}
		if n, e := s.Delete(key); n != 0 || e != want {
			t.Errorf("P5: Delete(%q) is %d, %d, not %d", key, n, e, want)
		}
		for _, n := range []int{1, -1} {
			if e := s.Erase(key, n); e != want {
				t.Errorf("P5: Erase(%q, %d) is %d, not %d", key, n, e, want)
			}
		}
	}
	for _, c := range []struct {
		prefix, key  string
		number, most int
		want         api.Errno
	}{{"", "", 0, 1, api.ErrShut}, {"b", "b", 1, 50, api.ErrShut}, {"B", "", 0, 1, api.ErrKey}, {"", "B", -1, 0, api.ErrKey}, {"", "b", -1, 1, api.ErrArg}, {"b", "", 0, 51, api.ErrArg}} {
		if p, e := s.List(c.prefix, c.key, c.number, c.most); !reflect.DeepEqual(p, api.Page{}) || e != c.want {
			t.Errorf("P5: List(%q, %q, %d, %d) is %v, %d, not %d", c.prefix, c.key, c.number, c.most, p, e, c.want)
		}
	}
}
