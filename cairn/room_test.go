package cairn_test

import (
	"fmt"
	"math/rand"
	"strings"
	"testing"

	"cairn/api"
)

// The document's last example: what the tests weigh by.
func TestWeights(t *testing.T) {
	for size, want := range map[int]int{0: 1, 1: 2, 100: 2, 101: 3, 300: 4} {
		if got := weigh(size); got != want {
			t.Errorf("%d bytes weigh %d, not %d", size, got, want)
		}
	}
}

// sizes: how many bytes the i-th body has.
func sizes() map[string]func(i int) int {
	m := map[string]func(int) int{
		"rising":  func(i int) int { return i % (api.MaxBody + 1) },
		"falling": func(i int) int { return api.MaxBody - i%(api.MaxBody+1) },
		"strides": func(i int) int { return i * 97 % (api.MaxBody + 1) },
		"few":     func(i int) int { return i % 40 / 39 * api.MaxBody },
	}
	for _, size := range []int{0, 1, 99, 100, 101, 124, 125, 200, 201, 248, 249, 299, 300} {
		m[fmt.Sprint(size)] = func(int) int { return size }
	}
	return m
}

// keys: the i-th key.
func keys(seed int64) map[string]func(i int) string {
	shuffled := rand.New(rand.NewSource(seed)).Perm(5000)
	return map[string]func(int) string{
		"rising":   func(i int) string { return fmt.Sprintf("%05d", i) },
		"falling":  func(i int) string { return fmt.Sprintf("%05d", 9999-i) },
		"shuffled": func(i int) string { return fmt.Sprintf("%d", shuffled[i]) },
		"one":      func(int) string { return "only/one" },
		"seven":    func(i int) string { return fmt.Sprint("k", i%7) },
		"lengths":  func(i int) string { return strings.Repeat("z", 1+i*3%api.MaxKey) },
		"outward":  func(i int) string { return fmt.Sprintf("%05d", 5000+(i%2*2-1)*i) },
	}
}

// diskSizes: the smallest ones one by one, and then further and further apart, up to the greatest.
func diskSizes() []int {
	var all []int
	for blocks := api.MinBlocks; blocks < api.MaxBlocks; blocks += 1 + (blocks-api.MinBlocks)/8 {
		all = append(all, blocks)
	}
	return append(all, api.MaxBlocks-1, api.MaxBlocks)
}

// As long as the document says that there is room, there is; and all that was put is there.
func TestRoom(t *testing.T) {
	for _, blocks := range diskSizes() {
		for sizeName, size := range sizes() {
			for keyName, key := range keys(int64(blocks)) {
				m := newModel(t, blocks)
				for i := 0; m.mustFit(size(i)); i++ {
					m.put(key(i), filled(size(i), i))
				}
				if t.Failed() {
					t.Fatalf("on %d blocks, bodies %s, keys %s", blocks, sizeName, keyName)
				}
				if (len(sizeName)+len(keyName)+blocks)%5 == 0 {
					m.check()
					m.open(m.d)
					m.check()
				}
			}
		}
	}
}

// Sizes and keys at random, to the very last version that must fit: a smaller one where a greater one need not.
func TestRoomAtRandom(t *testing.T) {
	for seed := range int64(150) {
		r := rand.New(rand.NewSource(seed))
		m := newModel(t, api.MinBlocks+r.Intn(api.MaxBlocks-api.MinBlocks+1))
		for m.mustFit(0) {
			size := r.Intn(api.MaxBody + 1)
			for !m.mustFit(size) {
				size /= 2
			}
			m.put(fmt.Sprint(r.Intn(1+r.Intn(300))), filled(size, r.Int()))
		}
		m.check()
		m.open(m.d.Copy())
		m.check()
	}
}

// A Put for which there is no room is as if it had not been made; what needs less may still come, with the next number.
func TestRoomRunsOut(t *testing.T) {
	for _, blocks := range []int{64, 65, 66, 67, 68, 69, 70, 100, 311, 1000} {
		for keyName, key := range keys(3) {
			m := newModel(t, blocks)
			refused := 0
			for size := api.MaxBody; size >= 0; {
				if m.put(key(len(m.versions)), filled(size, len(m.versions))) {
					continue
				}
				refused++
				m.getRefused(key(len(m.versions)))
				m.open(m.d.Copy())
				m.getRefused(key(len(m.versions)))
				size -= 50
			}
			if refused == 0 || t.Failed() {
				t.Fatalf("P11: on %d blocks with keys %s %d Puts were refused", blocks, keyName, refused)
			}
			m.check()
			m.open(m.d)
			m.check()
		}
	}
}

// Versions of no bytes make the greatest tree: what is read and logged by the way is most there.
func TestRoomForNoBytes(t *testing.T) {
	for keyName, key := range keys(4) {
		m := newModel(t, api.MaxBlocks)
		for m.put(key(len(m.versions)%5000), nil) {
		}
		if n := len(m.versions); n < api.MaxBlocks*3/2 {
			t.Errorf("P11: with keys %s there is room for %d versions of no bytes", keyName, n)
		}
		m.check()
	}
}

// getRefused asks for a key whose Put was refused: it is as it was.
func (m *model) getRefused(key string) {
	m.t.Helper()
	body, number, want := []byte(nil), 0, api.ErrNone
	for _, v := range m.versions {
		if v.key == key {
			body, number, want = v.body, v.number, api.OK
		}
	}
	m.get(key, body, number, want)
	m.at(key, len(m.versions)+1, nil, api.ErrNone)
}
