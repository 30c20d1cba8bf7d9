package cairn_test

import (
	"fmt"
	"strings"
	"sync"
	"testing"

	"cairn/api"
	"cairn/disk"
)

// The document's example of changes, the second row whole.
func TestChangesExample(t *testing.T) {
	m := newModel(t, 64)
	m.put("b", []byte("one"))
	m.put("a", []byte("two"))
	m.put("b", []byte("three"))
	m.get("b", []byte("three"), 3, api.OK)
	m.at("b", 1, []byte("one"), api.OK)
	m.at("a", 1, nil, api.ErrNone)
	if !m.delete("b") || m.last != 4 {
		t.Fatalf("P7: Delete gave the number %d", m.last)
	}
	m.get("b", nil, 0, api.ErrNone)
	m.deleteNone("b", api.ErrNone)
	m.at("b", 3, []byte("three"), api.OK)
	m.at("b", 4, nil, api.ErrNone)
	m.erase(3)
	m.get("b", []byte("three"), 3, api.OK)
	if !m.put("b", nil) || m.last != 5 {
		t.Fatalf("P6: Put gave the number %d", m.last)
	}
	m.get("b", nil, 5, api.OK)
	m.check()
	m.checkCopy()
}

// A marker takes nothing away but the newest place: a key goes to and fro between having something and nothing.
func TestDeleteToAndFro(t *testing.T) {
	m := newModel(t, 500)
	keys := []string{"b", "a", "b/", "bb", "b-"}
	for i := range 80 {
		key := keys[i*i%len(keys)]
		if v, ok := m.newest(key); !ok || v.marker {
			m.deleteNone(key, api.ErrNone)
			m.put(key, filled(i*3, i))
		} else {
			m.delete(key)
			m.deleteNone(key, api.ErrNone)
			m.get(key, nil, 0, api.ErrNone)
		}
		if i%9 == 0 {
			m.open(m.d.Copy())
		}
		m.check()
	}
}

// A version of no bytes is something, a marker is not.
func TestDeleteOfNoBytes(t *testing.T) {
	m := newModel(t, 64)
	m.put("a", nil)
	m.get("a", nil, 1, api.OK)
	m.delete("a")
	m.get("a", nil, 0, api.ErrNone)
	m.deleteNone("a", api.ErrNone)
	m.erase(1)
	m.get("a", nil, 1, api.OK)
	m.delete("a")
	m.at("a", 3, nil, api.ErrNone)
	m.checkCopy()
}

// What is left when versions were erased decides: a marker, a body, or nothing.
func TestDeleteBehindErase(t *testing.T) {
	m := newModel(t, 100)
	m.put("k", []byte("one"))
	m.delete("k")
	m.put("k", []byte("three"))
	m.erase(2)
	m.deleteNone("k", api.ErrNone)
	m.get("k", nil, 0, api.ErrNone)
	m.erase(0)
	m.deleteNone("k", api.ErrNone) // there is a marker alone
	m.check()
	m.erase(0)
	m.deleteNone("k", api.ErrNone)
	m.get("k", nil, 0, api.ErrNone)
	m.put("k", []byte("four"))
	if m.last != 4 {
		t.Errorf("P6: the number behind the erased ones is %d", m.last)
	}
	m.delete("k")
	m.checkCopy()
}

func TestDeleteRefusals(t *testing.T) {
	m := newModel(t, 100)
	m.put("b", []byte("kept"))
	m.put("bbb", []byte("kept too"))
	for _, key := range []string{"", "B", "b ", "b\x00", "a.b", "123456789", "é", "\xff", strings.Repeat("a", 1<<20)} {
		m.deleteNone(key, api.ErrKey)
	}
	for _, key := range []string{"a", "bb", "b-", "b/", "b0", "bbbb", "c", "-", "zzzzzzzz"} {
		m.deleteNone(key, api.ErrNone)
	}
	m.check()
	m.delete("b") // with the number 3: a refusal uses none up
	m.check()
}

// Without room a Delete is as if it had not been called; behind an Erase there is room again.
func TestDeleteWithoutRoom(t *testing.T) {
	for _, blocks := range []int{64, 65, 66, 67, 100, 500} {
		m := newModel(t, blocks)
		for i := 0; m.put(fmt.Sprint(i), filled(1, i)); i++ {
		}
		refused := false
		for i := 0; !refused; i++ {
			key := fmt.Sprint(i)
			refused = !m.delete(key)
			m.checkGet(key)
		}
		m.check()
		m.checkCopy()
		for len(m.versions) > 0 && !m.mustFit(0) {
			m.erase(0)
		}
		m.put("a", nil)
		m.check()
		if !m.mustFit(0) {
			m.erase(0)
		}
		if !m.delete("a") {
			t.Errorf("P11: on %d blocks Delete is refused", blocks)
		}
	}
}

func TestChangesBySeveral(t *testing.T) {
	s := open(t, disk.New(api.MaxBlocks))
	const callers, rounds = 8, 12
	var w sync.WaitGroup
	for k := range callers {
		w.Go(func() {
			key := fmt.Sprint(k)
			for i := range rounds {
				n, e := s.Put(key, filled(i*20, k))
				o, f := s.Delete(key)
				if e != api.OK || f != api.OK || o <= n {
					t.Errorf("P7: Put and Delete are %d, %d and %d, %d", n, e, o, f)
				}
				if p, e := s.List(key, "", 0, 1); e != api.OK || len(p.Versions) != 1 || p.Versions[0].Number != o || !p.Versions[0].Marker {
					t.Errorf("P10: List is %v, %d", p, e)
				}
				if e := s.Erase(key, o); e != api.OK {
					t.Errorf("P8: Erase is %d", e)
				}
				if _, got, e := s.Get(key); got != n || e != api.OK {
					t.Errorf("P9: Get is %d, %d, not %d", got, e, n)
				}
			}
		})
	}
	w.Wait()
	if n := len(told(s)); n != callers*rounds {
		t.Errorf("P10: there are %d versions", n)
	}
	if n, e := s.Put("a", nil); n != callers*rounds*2+1 || e != api.OK {
		t.Errorf("P6: the next number is %d, %d", n, e)
	}
}
