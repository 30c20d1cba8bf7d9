package cairn_test

import (
	"bytes"
	"fmt"
	"strings"
	"sync"
	"testing"

	"cairn/api"
	"cairn/disk"
)

// The document's example, as far as its Puts go.
func TestPutExample(t *testing.T) {
	m := newModel(t, 64)
	m.put("b", []byte("one"))
	m.put("a", []byte("two"))
	m.put("b", []byte("three"))
	m.get("b", []byte("three"), 3, api.OK)
	m.at("b", 1, []byte("one"), api.OK)
	m.at("a", 1, nil, api.ErrNone)
	m.put("b", nil)
	m.get("b", nil, 4, api.OK)
	m.check()
}

func TestPutEveryLength(t *testing.T) {
	for size := range api.MaxBody + 1 {
		m := newModel(t, api.MinBlocks)
		for i := range 3 {
			m.put("key", filled(size, size+i))
		}
		m.put("kez", nil)
		m.check()
		m.open(m.d.Copy())
		m.check()
	}
}

// A body may be of any bytes: noughts at its end too.
func TestPutAnyBytes(t *testing.T) {
	m := newModel(t, 200)
	for i, b := range [][]byte{nil, {}, {0}, {255}, make([]byte, 100), make([]byte, api.MaxBody), bytes.Repeat([]byte{255}, api.MaxBody)} {
		m.put(fmt.Sprint(i), b)
	}
	m.check()
}

// Keys that begin with one another, and all the bytes of keys, do not mix.
func TestPutKeysDoNotMix(t *testing.T) {
	m := newModel(t, 1000)
	for n := 1; n <= api.MaxKey; n++ {
		m.put(strings.Repeat("a", n), filled(n, n))
		m.put(strings.Repeat("-", n), filled(n, n+50))
	}
	for i := range len(keyBytes) {
		m.put(keyBytes[i:i+1], filled(10+i, i))
		m.put("a"+keyBytes[i:i+1], filled(60+i, i))
	}
	m.check()
}

func TestPutRefusals(t *testing.T) {
	m := newModel(t, 64)
	m.put("b", []byte("kept"))
	for _, c := range []struct {
		key  string
		size int
		want api.Errno
	}{
		{"", 0, api.ErrKey}, {"B", 3, api.ErrKey}, {"a b", 0, api.ErrKey}, {"a.b", 0, api.ErrKey}, {"a\x00", 0, api.ErrKey},
		{"123456789", 0, api.ErrKey}, {"é", 0, api.ErrKey}, {"\xff", 0, api.ErrKey}, {strings.Repeat("a", 1<<20), 0, api.ErrKey},
		{"B", api.MaxBody + 1, api.ErrKey}, {"", 1 << 20, api.ErrKey},
		{"b", api.MaxBody + 1, api.ErrLong}, {"b", api.MaxBody + 2, api.ErrLong}, {"new", 1 << 20, api.ErrLong},
	} {
		if n, e := m.s.Put(c.key, make([]byte, c.size)); n != 0 || e != c.want {
			t.Errorf("P6: Put(%.12q, %d bytes) is %d, %d, not %d", c.key, c.size, n, e, c.want)
		}
		m.check()
	}
	m.get("new", nil, 0, api.ErrNone)
	m.put("b", filled(api.MaxBody, 1)) // with the number 2: a refusal uses none up
	m.check()
}

func TestPutKeepsNothingOfTheCaller(t *testing.T) {
	m := newModel(t, 200)
	for _, size := range []int{0, 1, 99, 124, 125, 248, 249, api.MaxBody} {
		room := bytes.Repeat([]byte{'#'}, size+50)
		copy(room, filled(size, size))
		m.put("a", room[:size])
		if !bytes.Equal(room[size:], bytes.Repeat([]byte{'#'}, 50)) {
			t.Errorf("P2: Put wrote behind a body of %d bytes", size)
		}
		clear(room)
		m.check()
	}
}

func TestBodiesThatCameOutAreTheCallers(t *testing.T) {
	m := newModel(t, 200)
	for i, size := range []int{0, 1, 124, 125, api.MaxBody} {
		m.put("a", filled(size, i))
	}
	m.put("b", filled(77, 9))
	var outs [][]byte
	for _, v := range m.versions {
		for range 2 {
			b, _ := m.s.At(v.key, v.number)
			g, _, _ := m.s.Get(v.key)
			outs = append(outs, b, g)
		}
	}
	was := make([][]byte, len(outs))
	for i, b := range outs {
		was[i] = bytes.Clone(b)
	}
	for i, b := range outs {
		for j := range b[:cap(b)] {
			b[:cap(b)][j] ^= 255
		}
		for j := i + 1; j < len(outs); j++ {
			if !bytes.Equal(outs[j], was[j]) {
				t.Fatalf("P2: writing into one list changed another")
			}
		}
	}
	m.check()
	// Later calls do not reach into what came out.
	kept, _ := m.s.At("b", 6)
	m.put("b", filled(77, 10))
	m.put("c", filled(77, 11))
	m.check()
	if !bytes.Equal(kept, filled(77, 9)) {
		t.Error("P2: a later call changed what came out")
	}
}

func TestStoresOnDifferentDisks(t *testing.T) {
	a, b := newModel(t, 64), newModel(t, 1000)
	for i := range 6 {
		a.put("k", filled(i, i))
		b.put("k", filled(i*9, i+99))
		b.put(fmt.Sprint(i), nil)
		a.check()
		b.check()
	}
}

func TestPutBySeveral(t *testing.T) {
	s := open(t, disk.New(api.MaxBlocks))
	const callers, each = 8, 15
	numbers := make([][each]int, callers)
	var w sync.WaitGroup
	for k := range callers {
		w.Go(func() {
			for i := range each {
				n, e := s.Put(fmt.Sprint(k), filled(i*20, k*100+i))
				if e != api.OK {
					t.Errorf("P6: Put is %d, %d", n, e)
				}
				numbers[k][i] = n
				if _, got, e := s.Get(fmt.Sprint(k)); got != n || e != api.OK {
					t.Errorf("P9: Get is %d, %d, not %d", got, e, n)
				}
			}
		})
	}
	w.Wait()
	seen := make(map[int]bool)
	for k := range callers {
		for i, n := range numbers[k] {
			if n < 1 || n > callers*each || seen[n] {
				t.Errorf("P6: the number %d", n)
			}
			seen[n] = true
			if b, e := s.At(fmt.Sprint(k), n); !bytes.Equal(b, filled(i*20, k*100+i)) || e != api.OK {
				t.Errorf("P9: At(%d, %d) is %s, %d", k, n, show(b), e)
			}
		}
	}
}
