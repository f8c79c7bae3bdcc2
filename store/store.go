// Package store: keys with their versions, over a disk, and the transactions that read and write them.
package store

import (
	"pavilion/api"
	"pavilion/disk"
	"pavilion/history"
)

// The book stands behind all logs, so one number tells a log or the book.
const logsAndBook = api.Book + 1

// Store works over a disk as long as it holds it.
type Store struct {
	disk   *disk.Disk
	holder int  // by which the disk knows who holds it
	failed bool // a turn has failed in a call of this store
	shards int
	limit  int         // the last time that may be given
	image  imagePlace  // where the image that counts is
	sizes  map[int]int // how many bytes of each log and the book the store knows of
	known  history.History
	last   int
	next   int
	begun  int // how many transactions have ever begun
	open   map[int]*transaction
}

// stands tells ErrOver if the store is over; without a store it is the same.
func (s *Store) stands() api.Errno {
	if s == nil || s.failed || !s.disk.IsHeldBy(s.holder) {
		return api.ErrOver
	}
	return api.OK
}

// Begin begins a transaction (P10).
func (s *Store) Begin() (int, api.Errno) {
	if e := s.stands(); e != api.OK {
		return 0, e
	}
	if len(s.open) >= api.MaxOpen {
		return 0, api.ErrMany
	}
	t := s.begun
	s.begun++
	s.open[t] = &transaction{snapshot: s.last}
	return t, api.OK
}

// Abort ends a transaction (P13).
func (s *Store) Abort(t int) api.Errno {
	if _, e := s.find(t); e != api.OK {
		return e
	}
	delete(s.open, t)
	return api.OK
}

// Prune forgets versions that nobody can see (P16).
func (s *Store) Prune() (int, api.Errno) {
	if e := s.stands(); e != api.OK {
		return 0, e
	}
	return s.known.Prune(s.water()), api.OK
}

// Status tells how the store is, also when it is over (P17).
func (s *Store) Status() api.Status {
	if s == nil {
		return api.Status{}
	}
	return api.Status{Last: s.last, Next: s.next, Water: s.water(), Open: len(s.open), Versions: s.known.Count()}
}

// water is the least snapshot that is still read at; none is above last.
func (s *Store) water() int {
	w := s.last
	for _, x := range s.open {
		w = min(w, x.snapshot)
	}
	return w
}

func (s *Store) find(t int) (*transaction, api.Errno) {
	if e := s.stands(); e != api.OK {
		return nil, e
	}
	x := s.open[t]
	if x == nil {
		return nil, api.ErrNone
	}
	return x, api.OK
}
