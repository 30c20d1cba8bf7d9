package cairn_test

import (
	"fmt"
	"math/rand"
	"strings"
	"testing"

	"cairn/api"
)

// The document's last example: what the tests weigh by.
func TestWeights(t *testing.T) {
	for size, want := range map[int]int{0: 1, 1: 2, 100: 2, 101: 3, 300: 4} {
		if got := weigh(size); got != want {
			t.Errorf("%d bytes weigh %d, not %d", size, got, want)
		}
	}
}

// sizes: how many bytes the i-th body has.
func sizes() map[string]func(i int) int {
	m := map[string]func(int) int{
		"rising":  func(i int) int { return i % (api.MaxBody + 1) },
		"falling": func(i int) int { return api.MaxBody - i%(api.MaxBody+1) },
		"strides": func(i int) int { return i * 97 % (api.MaxBody + 1) },
		"few":     func(i int) int { return i % 40 / 39 * api.MaxBody },
	}
	for _, size := range []int{0, 1, 99, 100, 101, 124, 125, 200, 201, 248, 249, 299, 300} {
		m[fmt.Sprint(size)] = func(int) int { return size }
	}
	return m
}

// keys: the i-th key.
func keys(seed int64) map[string]func(i int) string {
	shuffled := rand.New(rand.NewSource(seed)).Perm(5000)
	return map[string]func(int) string{
		"rising":   func(i int) string { return fmt.Sprintf("%05d", i) },
		"falling":  func(i int) string { return fmt.Sprintf("%05d", 9999-i) },
		"shuffled": func(i int) string { return fmt.Sprintf("%d", shuffled[i]) },
		"one":      func(int) string { return "only/one" },
		"seven":    func(i int) string { return fmt.Sprint("k", i%7) },
		"lengths":  func(i int) string { return strings.Repeat("z", 1+i*3%api.MaxKey) },
		"outward":  func(i int) string { return fmt.Sprintf("%05d", 5000+(i%2*2-1)*i) },
	}
}

// diskSizes: the smallest ones one by one, and then further and further apart, up to the greatest.
func diskSizes() []int {
	var all []int
	for blocks := api.MinBlocks; blocks < api.MaxBlocks; blocks += 1 + (blocks-api.MinBlocks)/8 {
		all = append(all, blocks)
	}
	return append(all, api.MaxBlocks-1, api.MaxBlocks)
}

// As long as the document says that there is room, there is; and all that was put is there.
func TestRoom(t *testing.T) {
	for _, blocks := range diskSizes() {
		for sizeName, size := range sizes() {
			for keyName, key := range keys(int64(blocks)) {
				m := newModel(t, blocks)
				for i := 0; m.mustFit(size(i)); i++ {
					m.put(key(i), filled(size(i), i))
				}
				if t.Failed() {
					t.Fatalf("on %d blocks, bodies %s, keys %s", blocks, sizeName, keyName)
				}
				if (len(sizeName)+len(keyName)+blocks)%5 == 0 {
					m.check()
					m.open(m.d)
					m.check()
				}
			}
		}
	}
}

// Sizes and keys at random, to the very last version that must fit: a smaller one where a greater one need not.
func TestRoomAtRandom(t *testing.T) {
	for seed := range int64(150) {
		r := rand.New(rand.NewSource(seed))
		m := newModel(t, api.MinBlocks+r.Intn(api.MaxBlocks-api.MinBlocks+1))
		for m.mustFit(0) {
			size := r.Intn(api.MaxBody + 1)
			for !m.mustFit(size) {
				size /= 2
			}
			m.put(fmt.Sprint(r.Intn(1+r.Intn(300))), filled(size, r.Int()))
		}
		m.check()
		m.open(m.d.Copy())
		m.check()
	}
}

// A Put for which there is no room is as if it had not been made; what needs less may still come, with the next number.
func TestRoomRunsOut(t *testing.T) {
	for _, blocks := range []int{64, 65, 66, 67, 68, 69, 70, 100, 311, 1000} {
		for keyName, key := range keys(3) {
			m := newModel(t, blocks)
			refused := 0
			for size := api.MaxBody; size >= 0; {
				if m.put(key(len(m.versions)), filled(size, len(m.versions))) {
					continue
				}
				refused++
				m.checkGet(key(len(m.versions)))
				m.at(key(len(m.versions)), m.last+1, nil, api.ErrNone)
				m.open(m.d.Copy())
				m.checkGet(key(len(m.versions)))
				size -= 50
			}
			if refused == 0 || t.Failed() {
				t.Fatalf("P11: on %d blocks with keys %s %d Puts were refused", blocks, keyName, refused)
			}
			m.check()
			m.open(m.d)
			m.check()
		}
	}
}

// Versions of no bytes make the greatest tree: what is read and logged by the way is most there.
func TestRoomForNoBytes(t *testing.T) {
	for keyName, key := range keys(4) {
		m := newModel(t, api.MaxBlocks)
		for m.put(key(len(m.versions)%5000), nil) {
		}
		if n := len(m.versions); n < api.MaxBlocks*3/2 {
			t.Errorf("P11: with keys %s there is room for %d versions of no bytes", keyName, n)
		}
		m.check()
	}
}

// A disk that is filled and emptied again and again takes as much as a new one, and never less than the document says.
func TestRoomComesBack(t *testing.T) {
	for name, next := range removals(rand.New(rand.NewSource(7))) {
		for i, blocks := range []int{64, 65, 97, 230} {
			m := newModel(t, blocks)
			taken := -1
			for round := range 4 {
				r := rand.New(rand.NewSource(int64(i)))
				for m.put(fmt.Sprint(r.Intn(40)), filled(r.Intn(api.MaxBody+1), r.Int())) {
				}
				if n := len(m.versions); round == 0 {
					taken = n
				} else if n != taken {
					t.Fatalf("P11: erased %s, %d blocks take %d versions, not %d", name, blocks, n, taken)
				}
				m.check()
				m.checkCopy()
				for len(m.versions) > 0 {
					m.erase(next(m))
				}
				m.check()
			}
		}
	}
}

// With as much there as the document has room for, versions come and go, in many orders: none is refused.
func TestRoomToTheBrim(t *testing.T) {
	for name, next := range removals(rand.New(rand.NewSource(11))) {
		for sizeName, size := range sizes() {
			r := rand.New(rand.NewSource(int64(len(name))))
			m := newModel(t, api.MinBlocks+r.Intn(300))
			for i := range 150 {
				for m.mustFit(size(i)) {
					m.put(fmt.Sprint(r.Intn(30)), filled(size(i), i))
				}
				for m.mustFit(0) {
					m.put(fmt.Sprint(r.Intn(30)), nil)
				}
				for range min(1+r.Intn(8), len(m.versions)) {
					m.erase(next(m))
				}
				if key := fmt.Sprint(r.Intn(30)); m.mustFit(0) && m.something(key) {
					m.delete(key)
				}
			}
			m.check()
			m.checkCopy()
			if t.Failed() {
				t.Fatalf("erased %s, bodies %s, %d blocks", name, sizeName, m.d.Blocks())
			}
		}
	}
}

// something tells whether a key has a newest version that is no marker.
func (m *model) something(key string) bool {
	v, ok := m.newest(key)
	return ok && !v.marker
}

// On a disk that takes nothing more an Erase has room, whatever the tree looks like; and reads no more than it may.
func TestEraseOnFullDisk(t *testing.T) {
	orders := removals(rand.New(rand.NewSource(12)))
	for keyName, key := range keys(13) {
		whole := newModel(t, api.MaxBlocks)
		for whole.put(key(len(whole.versions)%5000), nil) {
		}
		for _, name := range []string{"oldest", "newest", "random"} {
			m := whole.copied()
			for len(m.versions) > 0 {
				m.erase(orders[name](m))
				if len(m.versions)%900 == 0 {
					m.check()
				}
			}
			if t.Failed() {
				t.Fatalf("erased %s, keys %s", name, keyName)
			}
			m.put("again", nil)
			m.check()
		}
	}
}

// A tree that was thinned out to its least has still room for what the document says, of the greatest bodies too.
func TestRoomInThinnedTree(t *testing.T) {
	for _, blocks := range []int{64, 65, 66, 67, 100, 333, 1000} {
		for every := 2; every < 9; every++ {
			m := newModel(t, blocks)
			for i := 0; m.put(fmt.Sprintf("%05d", i), nil); i++ {
			}
			for i := 0; i < len(m.versions); i++ {
				for range min(every, len(m.versions)-i) {
					if len(m.versions) > 1 {
						m.erase(i)
					}
				}
			}
			for i := 0; m.mustFit(api.MaxBody); i++ {
				m.put(fmt.Sprintf("%05d", i*37), filled(api.MaxBody, i))
			}
			for m.mustFit(0) {
				m.put("0", nil)
			}
			m.check()
			m.checkCopy()
		}
	}
}

// Puts, Deletes, Erases and openings as they come, against the model.
func TestChangesDrawn(t *testing.T) {
	for seed := range int64(60) {
		r := rand.New(rand.NewSource(seed))
		m := newModel(t, api.MinBlocks+r.Intn(1+r.Intn(api.MaxBlocks-api.MinBlocks)))
		rising := true
		for range 400 {
			key := drawnKey(r)
			switch n := r.Intn(10); {
			case n == 0 && m.something(key):
				m.delete(key)
			case n == 0:
				m.deleteNone(key, api.ErrNone)
			case n == 1:
				m.open(m.d.Copy())
			case (n < 3 || !rising) && len(m.versions) > 0:
				m.erase(r.Intn(len(m.versions)))
			default:
				rising = m.put(key, filled(r.Intn(api.MaxBody+1), r.Int()))
			}
			if len(m.versions) == 0 || r.Intn(50) == 0 {
				rising = !rising
			}
			if r.Intn(20) == 0 {
				m.check()
			}
		}
		m.check()
		m.checkCopy()
	}
}
