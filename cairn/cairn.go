// Package cairn: a store of versions on a disk that may fail: see DOC.md.
package cairn

import (
	"sync"

	"cairn/api"
	"cairn/change"
	"cairn/disk"
	"cairn/tree"
)

// Store is a store on a disk.
type Store struct {
	mutex sync.Mutex
	disk  *disk.Disk // nil: the store is shut
}

// Key tells whether a text is a key (P3).
func Key(key string) api.Errno {
	if !isKey(key) {
		return api.ErrKey
	}
	return api.OK
}

// Open gives the store that is on a disk (P4).
func Open(d *disk.Disk) (*Store, api.Errno) {
	if d == nil || d.Blocks() < api.MinBlocks {
		return nil, api.ErrSmall
	}
	if !change.Finish(d) {
		return nil, api.ErrDead
	}
	return &Store{disk: d}, api.OK
}

// Put gives a key a new version (P6).
func (s *Store) Put(key string, body []byte) (int, api.Errno) {
	s.mutex.Lock()
	defer s.mutex.Unlock()
	switch {
	case !isKey(key):
		return 0, api.ErrKey
	case len(body) > api.MaxBody:
		return 0, api.ErrLong
	case s.disk == nil:
		return 0, api.ErrShut
	}
	return s.add(key, body, false)
}

// Delete gives a key a marker (P7).
func (s *Store) Delete(key string) (int, api.Errno) {
	s.mutex.Lock()
	defer s.mutex.Unlock()
	switch {
	case !isKey(key):
		return 0, api.ErrKey
	case s.disk == nil:
		return 0, api.ErrShut
	}
	if _, ok := s.newest(key); !ok {
		return 0, api.ErrNone
	}
	return s.add(key, nil, true)
}

// Erase takes a version away (P8).
func (s *Store) Erase(key string, number int) api.Errno {
	s.mutex.Lock()
	defer s.mutex.Unlock()
	switch {
	case !isKey(key):
		return api.ErrKey
	case s.disk == nil:
		return api.ErrShut
	}
	return s.remove(tree.Place{Key: key, Number: number})
}

// Get tells the newest version of a key (P9).
func (s *Store) Get(key string) ([]byte, int, api.Errno) {
	s.mutex.Lock()
	defer s.mutex.Unlock()
	switch {
	case !isKey(key):
		return nil, 0, api.ErrKey
	case s.disk == nil:
		return nil, 0, api.ErrShut
	}
	e, ok := s.newest(key)
	if !ok {
		return nil, 0, api.ErrNone
	}
	return s.body(e), e.Number, api.OK
}

// At tells a version (P9).
func (s *Store) At(key string, number int) ([]byte, api.Errno) {
	s.mutex.Lock()
	defer s.mutex.Unlock()
	switch {
	case !isKey(key):
		return nil, api.ErrKey
	case s.disk == nil:
		return nil, api.ErrShut
	}
	place := tree.Place{Key: key, Number: number}
	e, ok := s.first(place)
	if !ok || e.Place != place || e.Marker {
		return nil, api.ErrNone
	}
	return s.body(e), api.OK
}

// List tells a page of versions (P10).
func (s *Store) List(prefix string, key string, number int, most int) (api.Page, api.Errno) {
	s.mutex.Lock()
	defer s.mutex.Unlock()
	switch {
	case prefix != "" && !isKey(prefix), key != "" && !isKey(key):
		return api.Page{}, api.ErrKey
	case number < 0, most < 1, most > api.MaxPage:
		return api.Page{}, api.ErrArg
	case s.disk == nil:
		return api.Page{}, api.ErrShut
	}
	return s.page(prefix, start(prefix, key, number), most), api.OK
}
