package store

import (
	"sync"

	"pavilion/api"
	"pavilion/disk"
	"pavilion/frame"
	"pavilion/keys"
)

// load is what a transaction lays into each log and the book; where the text is empty, it is nothing.
type load [logsAndBook]string

// Commit ends a transaction, and does what it wrote (P13, P14).
func (s *Store) Commit(t int) (int, api.Errno) {
	x, e := s.find(t)
	if e != api.OK {
		return 0, e
	}
	if len(x.writes) == 0 {
		delete(s.open, t)
		return x.snapshot, api.OK
	}
	if s.conflicts(x) {
		delete(s.open, t)
		return 0, api.ErrConflict
	}
	if s.next > s.limit {
		return 0, api.ErrSpent
	}
	time := s.next
	l := loadOf(time, x.writes, s.shards)
	if !s.hasRoom(l) {
		return 0, api.ErrFull
	}
	s.next++
	if e := l.layDown(s.disk); e != api.OK {
		s.failed = true
		return 0, e
	}
	s.take(time, x.writes, l)
	delete(s.open, t)
	return time, api.OK
}

func (s *Store) conflicts(x *transaction) bool {
	for _, w := range x.writes {
		if s.known.Newest(w.Key) > x.snapshot {
			return true
		}
	}
	return false
}

func (s *Store) hasRoom(l load) bool {
	for f, text := range l {
		if s.sizes[f]+len(text) > api.MaxFile {
			return false
		}
	}
	return true
}

// take makes known what the disk has.
func (s *Store) take(time int, writes []api.Write, l load) {
	for f, text := range l {
		s.sizes[f] += len(text)
	}
	for _, w := range writes {
		s.known.Add(time, w)
	}
	s.last = time
}

// loadOf needs a decision in the book only where several logs might disagree.
func loadOf(time int, writes []api.Write, shards int) load {
	var parts [api.MaxShards][]api.Write
	filled := 0
	for _, w := range writes {
		// Nothing is a write whose key belongs to no shard.
		shard, _ := keys.Shard(w.Key, shards)
		if len(parts[shard]) == 0 {
			filled++
		}
		parts[shard] = append(parts[shard], w)
	}
	var l load
	kind := api.One
	if filled > 1 {
		kind = api.Part
		l[api.Book] = encode(api.Record{Kind: api.Done, Time: time})
	}
	for shard, part := range parts {
		if len(part) > 0 {
			l[shard] = encode(api.Record{Kind: kind, Time: time, Writes: part})
		}
	}
	return l
}

// encode has no error to tell: what the store makes is a record.
func encode(r api.Record) string {
	text, _ := frame.Encode(r)
	return text
}

// layDown lays the logs' texts down beside one another, and the book's only when all of them last.
func (l load) layDown(d *disk.Disk) api.Errno {
	var outcomes [api.MaxShards]api.Errno
	var wait sync.WaitGroup
	for f := range outcomes {
		if l[f] != "" {
			wait.Go(func() { outcomes[f] = layText(d, f, l[f]) })
		}
	}
	wait.Wait()
	for _, e := range outcomes {
		if e != api.OK {
			return e
		}
	}
	if l[api.Book] == "" {
		return api.OK
	}
	return layText(d, api.Book, l[api.Book])
}

// layText tells ErrDevice for a lack of room too: the store had reckoned with that room.
func layText(d *disk.Disk, f int, text string) api.Errno {
	if d.Append(f, text) != api.OK || d.Sync(f) != api.OK {
		return api.ErrDevice
	}
	return api.OK
}
