package cairn_test

import (
	"bytes"
	"cmp"
	"fmt"
	"reflect"
	"slices"
	"strings"
	"testing"

	"cairn/api"
	"cairn/cairn"
	"cairn/disk"
)

// What the document promises of a call's reading (P11).
const mostReads = 40

// version is a version as the tests remember it.
type version struct {
	key    string
	number int
	marker bool
	body   []byte
}

// model is a store, and beside it what must be on its disk.
type model struct {
	t        *testing.T
	d        *disk.Disk
	s        *cairn.Store
	versions []version // by their numbers
	last     int       // the greatest number that was ever told
	dead     int       // how many changes answered ErrDead since that one was told
	weight   int
}

func newModel(t *testing.T, blocks int) *model {
	t.Helper()
	m := &model{t: t, d: disk.New(blocks)}
	m.open(m.d)
	return m
}

func open(t *testing.T, d *disk.Disk) *cairn.Store {
	t.Helper()
	r := d.Reads()
	s, e := cairn.Open(d)
	if s == nil || e != api.OK {
		t.Fatalf("P4: Open of %d blocks is %v, %d", d.Blocks(), s, e)
	}
	if n := d.Reads() - r; n > 2*d.Blocks() {
		t.Errorf("P11: Open of %d blocks read %d", d.Blocks(), n)
	}
	return s
}

// open goes on with the store that is on a disk.
func (m *model) open(d *disk.Disk) {
	m.t.Helper()
	m.d, m.s = d, open(m.t, d)
}

// copied gives a model of a copy of the disk, with a store of its own.
func (m *model) copied() *model {
	m.t.Helper()
	c := m.fork()
	c.open(c.d)
	return c
}

// fork gives a model of a copy of the disk as it is, on which no store is opened yet.
func (m *model) fork() *model {
	f := *m
	f.d, f.s, f.versions = m.d.Copy(), nil, slices.Clone(m.versions)
	return &f
}

// counted tells how many blocks a call reads.
func (m *model) counted(name string, call func()) {
	m.t.Helper()
	r := m.d.Reads()
	call()
	if n := m.d.Reads() - r; n > mostReads {
		m.t.Errorf("P11: %s read %d blocks, with %d versions on %d blocks", name, n, len(m.versions), m.d.Blocks())
	}
}

// weigh is the document's weight of a version with a body of so many bytes.
func weigh(size int) int { return 1 + (size+api.Share-1)/api.Share }

// mustFit tells whether the document says that there is room.
func (m *model) mustFit(size int) bool {
	return 2*(m.weight+weigh(size))+api.Spare <= m.d.Blocks()
}

// put puts, holds the answer against the model, and tells whether there was room.
func (m *model) put(key string, body []byte) bool {
	m.t.Helper()
	was := bytes.Clone(body)
	var n int
	var e api.Errno
	m.counted("Put", func() { n, e = m.s.Put(key, body) })
	if !bytes.Equal(body, was) {
		m.t.Errorf("P2: Put wrote into the body")
	}
	return m.added("P6: Put", version{key: key, number: n, body: was}, e)
}

// delete deletes a key that has something, holds the answer against the model, and tells whether there was room.
func (m *model) delete(key string) bool {
	m.t.Helper()
	var n int
	var e api.Errno
	m.counted("Delete", func() { n, e = m.s.Delete(key) })
	return m.added("P7: Delete", version{key: key, number: n, marker: true}, e)
}

// added holds the answer of a Put or a Delete against the model.
func (m *model) added(name string, v version, e api.Errno) bool {
	m.t.Helper()
	if e == api.ErrSpace && v.number == 0 && !m.mustFit(len(v.body)) {
		return false
	}
	if v.number <= m.greatest() || v.number > m.last+1+m.dead || e != api.OK {
		m.t.Fatalf("%s(%q, %d bytes) is %d, %d: the last number was %d, there is %d, %d changes died since (weight %d, %d blocks)", name, v.key, len(v.body), v.number, e, m.last, m.greatest(), m.dead, m.weight, m.d.Blocks())
	}
	m.last, m.dead = v.number, 0
	m.versions = append(m.versions, v)
	m.weight += weigh(len(v.body))
	return true
}

// greatest gives the greatest number that was told, or that a version has that was found behind a change that died.
func (m *model) greatest() int {
	if len(m.versions) == 0 {
		return m.last
	}
	return max(m.last, m.versions[len(m.versions)-1].number)
}

// erase erases the i-th of the versions.
func (m *model) erase(i int) {
	m.t.Helper()
	v := m.versions[i]
	var e api.Errno
	m.counted("Erase", func() { e = m.s.Erase(v.key, v.number) })
	if e != api.OK {
		m.t.Fatalf("P8: Erase(%q, %d) is %d (weight %d, %d blocks)", v.key, v.number, e, m.weight, m.d.Blocks())
	}
	m.versions = slices.Delete(m.versions, i, i+1)
	m.weight -= weigh(len(v.body))
}

// deleteNone and eraseNone ask for what there is not, or what is no key.
func (m *model) deleteNone(key string, want api.Errno) {
	m.t.Helper()
	m.counted("Delete", func() {
		if n, e := m.s.Delete(key); n != 0 || e != want {
			m.t.Errorf("P7: Delete(%q) is %d, %d, not %d", key, n, e, want)
		}
	})
}

func (m *model) eraseNone(key string, number int, want api.Errno) {
	m.t.Helper()
	m.counted("Erase", func() {
		if e := m.s.Erase(key, number); e != want {
			m.t.Errorf("P8: Erase(%q, %d) is %d, not %d", key, number, e, want)
		}
	})
}

// newest gives a key's newest version; false: there is none.
func (m *model) newest(key string) (version, bool) {
	for _, v := range slices.Backward(m.versions) {
		if v.key == key {
			return v, true
		}
	}
	return version{}, false
}

// check asks for every version, for every key's newest one, for all of them in their order, and for some that there are not.
func (m *model) check() {
	m.t.Helper()
	newest := make(map[string]version)
	for _, v := range m.versions {
		m.checkAt(v)
		newest[v.key] = v
	}
	for key, v := range newest {
		m.checkNewest(v)
		m.at(key, m.greatest()+1, nil, api.ErrNone)
		m.at(key, 0, nil, api.ErrNone)
	}
	for i, v := range m.versions {
		if next := m.versions[(i+1)%len(m.versions)]; next.key != v.key {
			m.at(v.key, next.number, nil, api.ErrNone)
		}
	}
	m.checkPages("", 20+len(m.versions)%(api.MaxPage-19))
}

// checkCopy checks a store that is opened anew on a copy of the disk.
func (m *model) checkCopy() {
	m.t.Helper()
	m.copied().check()
}

func (m *model) checkAt(v version) {
	m.t.Helper()
	if v.marker {
		m.at(v.key, v.number, nil, api.ErrNone)
		return
	}
	m.at(v.key, v.number, v.body, api.OK)
}

// checkGet asks for a key's newest version; there may be none.
func (m *model) checkGet(key string) {
	m.t.Helper()
	v, ok := m.newest(key)
	if !ok {
		m.get(key, nil, 0, api.ErrNone)
		return
	}
	m.checkNewest(v)
}

func (m *model) checkNewest(v version) {
	m.t.Helper()
	if v.marker {
		m.get(v.key, nil, 0, api.ErrNone)
		return
	}
	m.get(v.key, v.body, v.number, api.OK)
}

func (m *model) at(key string, number int, body []byte, want api.Errno) {
	m.t.Helper()
	var b []byte
	var e api.Errno
	m.counted("At", func() { b, e = m.s.At(key, number) })
	if !bytes.Equal(b, body) || e != want {
		m.t.Errorf("P9: At(%q, %d) is %s, %d, not %s, %d", key, number, show(b), e, show(body), want)
	}
}

func (m *model) get(key string, body []byte, number int, want api.Errno) {
	m.t.Helper()
	var b []byte
	var n int
	var e api.Errno
	m.counted("Get", func() { b, n, e = m.s.Get(key) })
	if !bytes.Equal(b, body) || n != number || e != want {
		m.t.Errorf("P9: Get(%q) is %s, %d, %d, not %s, %d, %d", key, show(b), n, e, show(body), number, want)
	}
}

// inOrder gives versions in the document's order.
func inOrder(versions []version) []version {
	all := slices.Clone(versions)
	slices.SortFunc(all, func(a, b version) int {
		return cmp.Or(slices.Compare([]byte(a.key), []byte(b.key)), b.number-a.number)
	})
	return all
}

// sorted gives the versions in the document's order, as a list tells them.
func (m *model) sorted() []api.Version {
	var all []api.Version
	for _, v := range inOrder(m.versions) {
		all = append(all, api.Version{Key: v.key, Number: v.number, Marker: v.marker, Size: len(v.body)})
	}
	return all
}

// page is the document's List, word by word, of versions in their order.
func page(all []api.Version, prefix, key string, number, most int) api.Page {
	var p api.Page
	for _, v := range all {
		greater := slices.Compare([]byte(v.Key), []byte(key)) > 0
		lesser := v.Key == key && v.Number < number
		if !strings.HasPrefix(v.Key, prefix) || key != "" && !greater && !lesser {
			continue
		}
		if len(p.Versions) == most {
			p.More = true
			break
		}
		p.Versions = append(p.Versions, v)
	}
	return p
}

// list holds a list against what the document says of the versions in their order.
func (m *model) list(all []api.Version, prefix, key string, number, most int) api.Page {
	m.t.Helper()
	got, e := m.s.List(prefix, key, number, most)
	want := page(all, prefix, key, number, most)
	if e != api.OK || got.More != want.More || !slices.Equal(got.Versions, want.Versions) {
		m.t.Fatalf("P10: List(%q, %q, %d, %d) is %v, %d, not %v", prefix, key, number, most, got, e, want)
	}
	return got
}

// checkPages goes from page to page.
func (m *model) checkPages(prefix string, most int) {
	m.t.Helper()
	all := m.sorted()
	var told []api.Version
	for key, number := "", 0; ; {
		p := m.list(all, prefix, key, number, most)
		told = append(told, p.Versions...)
		if !p.More {
			break
		}
		last := p.Versions[len(p.Versions)-1]
		key, number = last.Key, last.Number
	}
	all = slices.DeleteFunc(all, func(v api.Version) bool { return !strings.HasPrefix(v.Key, prefix) })
	if !slices.Equal(told, all) {
		m.t.Errorf("P10: in pages of %d there are %d versions, not %d, or others", most, len(told), len(all))
	}
}

// listRefused asks for a list that is refused.
func (m *model) listRefused(prefix, key string, number, most int, want api.Errno) {
	m.t.Helper()
	if p, e := m.s.List(prefix, key, number, most); !reflect.DeepEqual(p, api.Page{}) || e != want {
		m.t.Errorf("P10: List(%.12q, %.12q, %d, %d) is %v, %d, not %d", prefix, key, number, most, p, e, want)
	}
}

func show(b []byte) string { return fmt.Sprintf("%d bytes (%.20q)", len(b), b) }

// filled gives a body of so many bytes that differs from others.
func filled(size, seed int) []byte {
	b := make([]byte, size)
	for i := range b {
		b[i] = byte(i*31 + i>>8 + seed*7 + seed>>8)
	}
	return b
}
