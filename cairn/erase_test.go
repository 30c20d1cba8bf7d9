package cairn_test

import (
	"math"
	"math/bits"
	"math/rand"
	"slices"
	"strings"
	"testing"

	"cairn/api"
	"cairn/block"
	"cairn/disk"
)

// removals: which of n versions goes next, by orders of all kinds.
func removals(r *rand.Rand) map[string]func(m *model) int {
	byOrder := func(m *model, pick func(n int) int) int {
		v := m.sorted()[pick(len(m.versions))]
		return slices.IndexFunc(m.versions, func(w version) bool { return w.number == v.Number })
	}
	return map[string]func(m *model) int{
		"oldest":   func(m *model) int { return 0 },
		"newest":   func(m *model) int { return len(m.versions) - 1 },
		"middle":   func(m *model) int { return len(m.versions) / 2 },
		"random":   func(m *model) int { return r.Intn(len(m.versions)) },
		"front":    func(m *model) int { return byOrder(m, func(n int) int { return 0 }) },
		"back":     func(m *model) int { return byOrder(m, func(n int) int { return n - 1 }) },
		"inside":   func(m *model) int { return byOrder(m, func(n int) int { return n / 2 }) },
		"strides":  func(m *model) int { return byOrder(m, func(n int) int { return n * 7 % 11 % n }) },
		"twofold":  func(m *model) int { return byOrder(m, func(n int) int { return n % 2 * (n - 1) }) },
		"quarters": func(m *model) int { return byOrder(m, func(n int) int { return (n % 4) * (n - 1) / 3 }) },
	}
}

// In any order, each Erase takes away one version and nothing else.
func TestEraseInManyOrders(t *testing.T) {
	for name, next := range removals(rand.New(rand.NewSource(2))) {
		for keyName, key := range keys(5) {
			m := newModel(t, 400)
			for i := range 60 {
				m.put(key(i), filled(i*11%301, i))
				if i%5 == 4 {
					m.delete(key(i))
				}
			}
			for len(m.versions) > 0 {
				i := next(m)
				v := m.versions[i]
				m.erase(i)
				m.at(v.key, v.number, nil, api.ErrNone)
				m.eraseNone(v.key, v.number, api.ErrNone)
				m.checkGet(v.key)
				if len(m.versions)%6 == 0 {
					m.check()
					m.checkCopy()
				}
			}
			m.put("a", nil)
			m.check()
			if t.Failed() {
				t.Fatalf("erased %s, keys %s", name, keyName)
			}
		}
	}
}

// Numbers go on rising behind an Erase of the newest version, of all versions, and behind an opening.
func TestEraseKeepsNumbers(t *testing.T) {
	m := newModel(t, 64)
	for i := range 20 {
		m.put("a", filled(i, i))
		m.put("b", nil)
		if i%3 == 0 {
			m.delete("b")
		}
		for len(m.versions) > i%4 {
			m.erase(len(m.versions) - 1)
		}
		switch i % 3 {
		case 0:
			m.open(m.d)
		case 1:
			m.open(m.d.Copy())
		case 2:
			m.d.Fall(nil)
			m.open(m.d)
		}
		m.check()
	}
	if m.put("a", nil); m.last != 48 {
		t.Errorf("P6: the number is %d", m.last)
	}
}

// What was the newest but one is the newest then, a marker too.
func TestEraseOfNewest(t *testing.T) {
	m := newModel(t, 100)
	m.put("a", []byte("one"))
	m.put("b", []byte("two"))
	m.put("a", []byte("three"))
	m.delete("a")
	m.put("a", []byte("five"))
	m.erase(4)
	m.get("a", nil, 0, api.ErrNone)
	m.erase(3)
	m.get("a", []byte("three"), 3, api.OK)
	m.erase(2)
	m.get("a", []byte("one"), 1, api.OK)
	m.erase(0)
	m.get("a", nil, 0, api.ErrNone)
	m.get("b", []byte("two"), 2, api.OK)
	m.checkCopy()
}

func TestEraseRefusals(t *testing.T) {
	m := newModel(t, 300)
	m.eraseNone("a", 1, api.ErrNone)
	m.eraseNone("a", 0, api.ErrNone)
	for i := range 30 {
		m.put([]string{"b", "bbb", "c"}[i%3], filled(i, i))
	}
	for _, key := range []string{"", "B", "b ", "b\x00", "a.b", "123456789", "é", "\xff", strings.Repeat("a", 1<<20)} {
		for _, n := range []int{1, 0, -1, math.MaxInt, math.MinInt} {
			m.eraseNone(key, n, api.ErrKey)
		}
	}
	for _, key := range []string{"b", "bbb", "c"} {
		for _, n := range []int{0, -1, 31, 32, 1 << 16, 1 << 32, 1<<32 + 1, 1<<32 + 2, 1<<32 + 3, math.MaxInt, math.MinInt, math.MinInt + 1, math.MinInt + 2, math.MinInt + 3} {
			m.eraseNone(key, n, api.ErrNone)
		}
	}
	for _, key := range []string{"a", "bb", "b-", "bbbb", "cc", "-", "zzzzzzzz"} {
		for n := -1; n < 33; n++ {
			m.eraseNone(key, n, api.ErrNone)
		}
	}
	for _, v := range m.versions {
		m.eraseNone(v.key, v.number%30+1, api.ErrNone) // the next one's, of another key
	}
	m.check()
	m.checkCopy()
	m.put("b", nil) // with the number 31: a refusal uses none up
}

// taken tells how many blocks the map says are taken.
func taken(d *disk.Disk) int {
	p := block.Page(d.Read(block.MapAt))
	n := 0
	for _, b := range p.Items() {
		n += bits.OnesCount8(b)
	}
	return n
}

// used tells how many blocks the tree and its bodies have.
func used(d *disk.Disk) int {
	root := block.Page(d.Read(block.RootAt))
	var below func(at int) int
	below = func(at int) int {
		n := 1
		p := block.Page(d.Read(at))
		for i := range p.Count() {
			switch to := block.Number(p.Item(i)[block.PlaceBytes : block.PlaceBytes+block.AddressBytes]); {
			case p.Kind() == block.Branch:
				n += below(to)
			case to != 0:
				for ; to != 0; n++ {
					b := block.Page(d.Read(to))
					to = b.Link()
				}
			}
		}
		return n
	}
	if root.Link() == 0 {
		return 0
	}
	return below(root.Link())
}

// No block is lost by any change, and none is in use that others may take.
func TestErasedBlocksAreFree(t *testing.T) {
	r := rand.New(rand.NewSource(8))
	for name, next := range removals(r) {
		m := newModel(t, 300)
		for i := range 500 {
			if r.Intn(400) > len(m.versions)+i/2 && m.mustFit(300) {
				m.put(string(keyBytes[r.Intn(len(keyBytes))]), filled(r.Intn(301), i))
			} else if len(m.versions) > 0 {
				m.erase(next(m))
			}
			if a, b := taken(m.d), used(m.d); a != b {
				t.Fatalf("P11: erased %s: %d blocks are taken, %d are used", name, a, b)
			}
		}
		for len(m.versions) > 0 {
			m.erase(next(m))
		}
		if a := taken(m.d); a != 0 {
			t.Errorf("P11: erased %s: on an empty disk %d blocks are taken", name, a)
		}
	}
}
