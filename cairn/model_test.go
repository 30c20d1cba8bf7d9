package cairn_test

import (
	"bytes"
	"fmt"
	"testing"

	"cairn/api"
	"cairn/cairn"
	"cairn/disk"
)

// What the document promises of a call's reading (P11).
const mostReads = 40

// version is a version as the tests remember it.
type version struct {
	key    string
	number int
	body   []byte
}

// model is a store, and beside it what must be on its disk.
type model struct {
	t        *testing.T
	d        *disk.Disk
	s        *cairn.Store
	versions []version
	weight   int
}

func newModel(t *testing.T, blocks int) *model {
	t.Helper()
	m := &model{t: t, d: disk.New(blocks)}
	m.open(m.d)
	return m
}

func open(t *testing.T, d *disk.Disk) *cairn.Store {
	t.Helper()
	r := d.Reads()
	s, e := cairn.Open(d)
	if s == nil || e != api.OK {
		t.Fatalf("P4: Open of %d blocks is %v, %d", d.Blocks(), s, e)
	}
	if n := d.Reads() - r; n > 2*d.Blocks() {
		t.Errorf("P11: Open of %d blocks read %d", d.Blocks(), n)
	}
	return s
}

// open goes on with the store that is on a disk.
func (m *model) open(d *disk.Disk) {
	m.t.Helper()
	m.d, m.s = d, open(m.t, d)
}

// counted tells how many blocks a call reads.
func (m *model) counted(name string, call func()) {
	m.t.Helper()
	r := m.d.Reads()
	call()
	if n := m.d.Reads() - r; n > mostReads {
		m.t.Errorf("P11: %s read %d blocks, with %d versions on %d blocks", name, n, len(m.versions), m.d.Blocks())
	}
}

// weigh is the document's weight of a version with a body of so many bytes.
func weigh(size int) int { return 1 + (size+api.Share-1)/api.Share }

// mustFit tells whether the document says that there is room.
func (m *model) mustFit(size int) bool {
	return 2*(m.weight+weigh(size))+api.Spare <= m.d.Blocks()
}

// put puts, holds the answer against the model, and tells whether there was room.
func (m *model) put(key string, body []byte) bool {
	m.t.Helper()
	was := bytes.Clone(body)
	var n int
	var e api.Errno
	m.counted("Put", func() { n, e = m.s.Put(key, body) })
	if !bytes.Equal(body, was) {
		m.t.Errorf("P2: Put wrote into the body")
	}
	if e == api.ErrSpace && n == 0 && !m.mustFit(len(body)) {
		return false
	}
	if want := len(m.versions) + 1; n != want || e != api.OK {
		m.t.Fatalf("P6: Put(%q, %d bytes) is %d, %d, not %d (weight %d, %d blocks)", key, len(body), n, e, want, m.weight, m.d.Blocks())
	}
	m.versions = append(m.versions, version{key, n, was})
	m.weight += weigh(len(body))
	return true
}

// check asks for every version, for every key's newest one, and for some that there are not.
func (m *model) check() {
	m.t.Helper()
	newest := make(map[string]version)
	for _, v := range m.versions {
		m.at(v.key, v.number, v.body, api.OK)
		newest[v.key] = v
	}
	for key, v := range newest {
		m.get(key, v.body, v.number, api.OK)
		m.at(key, len(m.versions)+1, nil, api.ErrNone)
		m.at(key, 0, nil, api.ErrNone)
	}
	for i, v := range m.versions {
		if next := m.versions[(i+1)%len(m.versions)]; next.key != v.key {
			m.at(v.key, next.number, nil, api.ErrNone)
		}
	}
}

func (m *model) at(key string, number int, body []byte, want api.Errno) {
	m.t.Helper()
	var b []byte
	var e api.Errno
	m.counted("At", func() { b, e = m.s.At(key, number) })
	if !bytes.Equal(b, body) || e != want {
		m.t.Errorf("P9: At(%q, %d) is %s, %d, not %s, %d", key, number, show(b), e, show(body), want)
	}
}

func (m *model) get(key string, body []byte, number int, want api.Errno) {
	m.t.Helper()
	var b []byte
	var n int
	var e api.Errno
	m.counted("Get", func() { b, n, e = m.s.Get(key) })
	if !bytes.Equal(b, body) || n != number || e != want {
		m.t.Errorf("P9: Get(%q) is %s, %d, %d, not %s, %d, %d", key, show(b), n, e, show(body), number, want)
	}
}

func show(b []byte) string { return fmt.Sprintf("%d bytes (%.20q)", len(b), b) }

// filled gives a body of so many bytes that differs from others.
func filled(size, seed int) []byte {
	b := make([]byte, size)
	for i := range b {
		b[i] = byte(i*31 + i>>8 + seed*7 + seed>>8)
	}
	return b
}
