// Package pavilion: a store of keys in several logs, whose transactions are whole or not at all: see DOC.md.
package pavilion

import (
	"pavilion/api"
	"pavilion/disk"
	"pavilion/frame"
	"pavilion/keys"
	"pavilion/store"
)

// Shard tells to which log a key belongs (P3).
func Shard(key string, shards int) (int, api.Errno) { return keys.Shard(key, shards) }

// Sum tells the check sum of a text (P4).
func Sum(s string) int { return frame.Sum(s) }

// Encode tells a frame (P5).
func Encode(r api.Record) (string, api.Errno) { return frame.Encode(r) }

// Scan tells the frames with which some bytes begin, and how many bytes these are (P6).
func Scan(s string) ([]api.Record, int) { return frame.Scan(s) }

// Disk is files of bytes.
type Disk struct{ inner disk.Disk }

// NewDisk makes a disk (P7).
func NewDisk() *Disk { return new(Disk) }

// files is nil without a disk, as a field of nil must not be asked for.
func (d *Disk) files() *disk.Disk {
	if d == nil {
		return nil
	}
	return &d.inner
}

// Append lays bytes behind those of a file (P7).
func (d *Disk) Append(f int, s string) api.Errno { return d.files().Append(f, s) }

// Sync makes a file's bytes lasting (P7).
func (d *Disk) Sync(f int) api.Errno { return d.files().Sync(f) }

// Cut shortens a file (P7).
func (d *Disk) Cut(f int, n int) api.Errno { return d.files().Cut(f, n) }

// Read tells a file's bytes (P7).
func (d *Disk) Read(f int) (string, api.Errno) { return d.files().Read(f) }

// Trouble lets a later turn of a file fail (P8).
func (d *Disk) Trouble(f int, k int) api.Errno { return d.files().Trouble(f, k) }

// Crash loses what does not last (P8).
func (d *Disk) Crash(keep int, junk string) { d.files().Crash(keep, junk) }

// Store is keys with their versions, over a disk.
type Store struct{ inner *store.Store }

// Open makes a store of what a disk holds (P9).
func Open(d *Disk, c api.Config) (*Store, api.Errno) {
	inner, e := store.Open(d.files(), c)
	if e != api.OK {
		return nil, e
	}
	return &Store{inner}, api.OK
}

// work is nil without a store, as a field of nil must not be asked for.
func (s *Store) work() *store.Store {
	if s == nil {
		return nil
	}
	return s.inner
}

// Begin begins a transaction (P10).
func (s *Store) Begin() (int, api.Errno) { return s.work().Begin() }

// Get tells what there is of keys (P11).
func (s *Store) Get(t int, keys ...string) ([]api.Found, api.Errno) {
	return s.work().Get(t, keys...)
}

// Scan tells keys in their order (P11).
func (s *Store) Scan(t int, from string, to string, most int) ([]api.Pair, api.Errno) {
	return s.work().Scan(t, from, to, most)
}

// Put writes keys (P12).
func (s *Store) Put(t int, pairs ...api.Pair) api.Errno { return s.work().Put(t, pairs...) }

// Delete deletes keys (P12).
func (s *Store) Delete(t int, keys ...string) api.Errno { return s.work().Delete(t, keys...) }

// Abort ends a transaction (P13).
func (s *Store) Abort(t int) api.Errno { return s.work().Abort(t) }

// Commit ends a transaction, and does what it wrote (P13, P14).
func (s *Store) Commit(t int) (int, api.Errno) { return s.work().Commit(t) }

// Checkpoint writes an image, and empties the logs (P15).
func (s *Store) Checkpoint() api.Errno { return s.work().Checkpoint() }

// Prune forgets versions that nobody can see (P16).
func (s *Store) Prune() (int, api.Errno) { return s.work().Prune() }

// Status tells how the store is (P17).
func (s *Store) Status() api.Status { return s.work().Status() }
