package cairn_test

import (
	"fmt"
	"math"
	"math/rand"
	"slices"
	"strings"
	"testing"

	"cairn/api"
)

// listed tells a page in short.
func listed(p api.Page) string {
	out := ""
	for _, v := range p.Versions {
		out += fmt.Sprintf("%s %d, ", v.Key, v.Number)
	}
	if p.More {
		out += "more"
	}
	return out
}

// The document's example of lists.
func TestListExample(t *testing.T) {
	m := newModel(t, 64)
	m.put("b", []byte("one"))
	m.put("a", []byte("two"))
	m.put("b", []byte("three"))
	m.delete("b")
	m.erase(3)
	m.put("b", nil)
	for _, c := range []struct {
		prefix, key  string
		number, most int
		want         string
	}{
		{"", "", 0, 10, "a 2, b 5, b 3, b 1, "},
		{"", "", 0, 2, "a 2, b 5, more"},
		{"", "b", 5, 2, "b 3, b 1, "},
		{"b", "", 9, 10, "b 5, b 3, b 1, "},
		{"", "a", 0, 10, "b 5, b 3, b 1, "},
		{"", "aa", 0, 10, "b 5, b 3, b 1, "},
		{"", "b", 4, 10, "b 3, b 1, "},
		{"c", "", 0, 10, ""},
		// And its edges.
		{"", "", 0, 4, "a 2, b 5, b 3, b 1, "},
		{"", "", 0, 3, "a 2, b 5, b 3, more"},
		{"", "", math.MaxInt, 1, "a 2, more"},
		{"", "a", math.MaxInt, 50, "a 2, b 5, b 3, b 1, "},
		{"", "a", 2, 50, "b 5, b 3, b 1, "},
		{"", "a", 3, 1, "a 2, more"},
		{"", "b", 1, 50, ""},
		{"", "b", 2, 50, "b 1, "},
		{"", "b", 0, 50, ""},
		{"", "bb", math.MaxInt, 50, ""},
		{"a", "", 0, 1, "a 2, "},
		{"a", "a", 2, 1, ""},
		{"a", "b", math.MaxInt, 50, ""},
		{"b", "a", 0, 50, "b 5, b 3, b 1, "},
		{"b", "a", math.MaxInt, 50, "b 5, b 3, b 1, "},
		{"b", "b", 5, 50, "b 3, b 1, "},
		{"b", "bb", 5, 50, ""},
		{"bb", "", 0, 50, ""},
	} {
		p, e := m.s.List(c.prefix, c.key, c.number, c.most)
		if got := listed(p); got != c.want || e != api.OK {
			t.Errorf("P10: List(%q, %q, %d, %d) is %q, %d, not %q", c.prefix, c.key, c.number, c.most, got, e, c.want)
		}
	}
}

func TestListTellsVersions(t *testing.T) {
	m := newModel(t, 100)
	for _, size := range []int{0, 1, 100, 255, 256, 300} {
		m.put("k", filled(size, 1))
	}
	m.delete("k")
	p, e := m.s.List("", "", 0, 50)
	want := "[{k 7 true 0} {k 6 false 300} {k 5 false 256} {k 4 false 255} {k 3 false 100} {k 2 false 1} {k 1 false 0}]"
	if got := fmt.Sprint(p.Versions); got != want || p.More || e != api.OK {
		t.Errorf("P10: List is %v, %d, not %s", p, e, want)
	}
}

// Byte by byte the lesser first; a key that another one begins with goes ahead of it.
func TestListOrder(t *testing.T) {
	m := newModel(t, 400)
	for i, key := range strings.Fields("ab a/ a abc a- b a0 aa a9 az -a /a 0a -- z zzzzzzzz zzzzzzz aaaaaaaa 9 / - 0") {
		m.put(key, filled(i, i))
	}
	p, e := m.s.List("", "", 0, 50)
	want := "- 21, -- 14, -a 11, / 20, /a 12, 0 22, 0a 13, 9 19, a 3, a- 5, a/ 2, a0 7, a9 9, aa 8, aaaaaaaa 18, ab 1, abc 4, az 10, b 6, z 15, zzzzzzz 17, zzzzzzzz 16, "
	if got := listed(p); got != want || e != api.OK {
		t.Errorf("P10: List is %q, %d, not %q", got, e, want)
	}
	m.check()
}

func TestListOfNothing(t *testing.T) {
	m := newModel(t, 64)
	for range 2 {
		for _, prefix := range []string{"", "a", "zzzzzzzz"} {
			for _, key := range []string{"", "a", "-", "zzzzzzzz"} {
				for _, n := range []int{0, 1, math.MaxInt} {
					m.list(nil, prefix, key, n, 1)
					m.list(nil, prefix, key, n, api.MaxPage)
				}
			}
		}
		m.put("a", nil)
		m.erase(0)
	}
}

func TestListRefusals(t *testing.T) {
	m := newModel(t, 64)
	m.put("a", []byte("kept"))
	bad := []string{"A", "a b", "a.b", "a\x00", "\x00", "123456789", "é", "\xff", strings.Repeat("a", 1<<20)}
	for _, text := range bad {
		for _, n := range []int{0, -1, math.MinInt, math.MaxInt} {
			for _, most := range []int{1, 0, 51} {
				m.listRefused(text, "", n, most, api.ErrKey)
				m.listRefused("", text, n, most, api.ErrKey)
				m.listRefused(text, "a", n, most, api.ErrKey)
				m.listRefused("a", text, n, most, api.ErrKey)
				m.listRefused(text, text, n, most, api.ErrKey)
			}
		}
	}
	for _, text := range []string{"", "a", "b", "zzzzzzzz"} {
		for _, n := range []int{-1, -2, math.MinInt} {
			m.listRefused(text, "", n, 1, api.ErrArg)
			m.listRefused("", text, n, api.MaxPage, api.ErrArg)
			m.listRefused(text, text, n, 0, api.ErrArg)
		}
		for _, most := range []int{0, -1, api.MaxPage + 1, math.MaxInt, math.MinInt} {
			m.listRefused(text, "", 0, most, api.ErrArg)
			m.listRefused("", text, math.MaxInt, most, api.ErrArg)
			m.listRefused("b", text, 1, most, api.ErrArg)
		}
	}
	m.check()
}

// many gives a store with versions of keys that begin with one another, markers among them, some erased.
func many(t *testing.T, seed int64) *model {
	r := rand.New(rand.NewSource(seed))
	m := newModel(t, 700)
	for i := range 160 {
		key := drawnKey(r)
		m.put(key, filled(r.Intn(40)*r.Intn(2), i))
		if r.Intn(6) == 0 {
			m.delete(key)
		}
		if r.Intn(4) == 0 {
			m.erase(r.Intn(len(m.versions)))
		}
	}
	return m
}

// drawnKey gives keys many of which begin with one another, the shortest most often.
func drawnKey(r *rand.Rand) string {
	key := ""
	for len(key) == 0 || len(key) < api.MaxKey && r.Intn(3) == 0 {
		key += string("ab-/0"[r.Intn(5)])
	}
	return key
}

// Any prefix, any place, any page size.
func TestListAnywhere(t *testing.T) {
	for seed := range int64(3) {
		m := many(t, seed)
		all := m.sorted()
		r := rand.New(rand.NewSource(seed))
		numbers := []int{0, 1, m.last - 1, m.last, m.last + 1, 1 << 32, math.MaxInt - 1, math.MaxInt}
		for range 8000 {
			prefix, key, number := "", "", 0
			if r.Intn(3) > 0 {
				prefix = drawnKey(r)
			}
			if r.Intn(5) > 0 {
				key = drawnKey(r)
			}
			if number = numbers[r.Intn(len(numbers))]; r.Intn(2) == 0 {
				number = r.Intn(m.last + 2)
			}
			m.list(all, prefix, key, number, 1+r.Intn(api.MaxPage))
		}
		// Right at, ahead of and behind every version that there is.
		for _, v := range all {
			for _, n := range []int{v.Number - 1, v.Number, v.Number + 1} {
				for _, prefix := range []string{"", v.Key[:1], v.Key, "b"} {
					m.list(all, prefix, v.Key, n, 1+v.Number%7)
				}
			}
		}
	}
}

// Pages one behind the other tell all versions, none twice, whatever their size.
func TestListPages(t *testing.T) {
	m := many(t, 9)
	for most := 1; most <= api.MaxPage; most++ {
		for _, prefix := range []string{"", "a", "ab", "-", "/", "0", "b", "z", "aaaaaaaa"} {
			m.checkPages(prefix, most)
		}
	}
	m.open(m.d.Copy())
	for most := 1; most <= api.MaxPage; most++ {
		m.checkPages("", most)
	}
}

// Whether there are more is right to the last one: with as many as fit into a page, one fewer, one more.
func TestListMore(t *testing.T) {
	for n := range 2*api.MaxPage + 2 {
		m := newModel(t, 400)
		for i := range n {
			m.put(fmt.Sprintf("b%d", i%3), nil)
		}
		m.put("a", nil)
		m.put("c", nil)
		all := m.sorted()
		for most := max(1, n-2); most <= min(n+3, api.MaxPage); most++ {
			m.list(all, "b", "", 0, most)
			m.list(all, "b", "a", 0, most)
			m.list(all, "", "", 0, most)
		}
		m.list(all, "b", "", 0, api.MaxPage)
		m.list(all, "b", "", 0, 1)
	}
}

// A list is the caller's, to the end of its spare room.
func TestListsAreTheCallers(t *testing.T) {
	m := many(t, 4)
	all := m.sorted()
	a := m.list(all, "", "", 0, 20)
	b := m.list(all, "", "", 0, 20)
	for i := range a.Versions[:cap(a.Versions)] {
		a.Versions[:cap(a.Versions)][i] = api.Version{Key: "mine", Number: -1, Marker: true, Size: -1}
	}
	if !slices.Equal(b.Versions, all[:20]) {
		t.Error("P2: writing into one list changed another")
	}
	m.list(all, "", "", 0, 20)
	m.put("a", nil)
	m.erase(0)
	if !slices.Equal(b.Versions, all[:20]) {
		t.Error("P2: a later call changed a list")
	}
	m.check()
}

// A list looks at what is on its page, not at all there is: it stops at the end of the page, and at the end of the prefix's keys.
func TestListReadsLittle(t *testing.T) {
	m := many(t, 6)
	for i := range 40 {
		m.put("zz", nil)
		m.put(fmt.Sprint("yyyy", i), nil)
	}
	m.put("y", nil)
	all := m.sorted()
	few := func(prefix, key string, number, most int) {
		r := m.d.Reads()
		m.list(all, prefix, key, number, most)
		if n := m.d.Reads() - r; n > mostReads {
			t.Errorf("List(%q, %q, %d, %d) read %d blocks", prefix, key, number, most, n)
		}
	}
	for _, v := range all {
		few("", v.Key, v.Number, 1)
		few("a", v.Key, v.Number, 1)
	}
	few("y", "yyyy9", 0, api.MaxPage)
	few("-b-", "", 0, api.MaxPage)
	few("1", "", 0, api.MaxPage)
}
