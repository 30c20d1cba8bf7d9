// Package cairn: a store of versions on a disk that may fail: see DOC.md.
package cairn

import (
	"cairn/api"
	"cairn/disk"
)

// Store is a store on a disk.
type Store struct{}

// Key tells whether a text is a key (P3).
func Key(key string) api.Errno {
	if !isKey(key) {
		return api.ErrKey
	}
	return api.OK
}

// Open gives the store that is on a disk (P4).
func Open(d *disk.Disk) (*Store, api.Errno) { return nil, api.OK }

// Put gives a key a new version (P6).
func (s *Store) Put(key string, body []byte) (int, api.Errno) { return 0, api.OK }

// Delete gives a key a marker (P7).
func (s *Store) Delete(key string) (int, api.Errno) { return 0, api.OK }

// Erase takes a version away (P8).
func (s *Store) Erase(key string, number int) api.Errno { return api.OK }

// Get tells the newest version of a key (P9).
func (s *Store) Get(key string) ([]byte, int, api.Errno) { return nil, 0, api.OK }

// At tells a version (P9).
func (s *Store) At(key string, number int) ([]byte, api.Errno) { return nil, api.OK }

// List tells a page of versions (P10).
func (s *Store) List(prefix string, key string, number int, most int) (api.Page, api.Errno) {
	return api.Page{}, api.OK
}
