package store

import (
	"pavilion/api"
	"pavilion/disk"
	"pavilion/frame"
	"pavilion/history"
)

// Open makes a store of what a disk holds (P9).
func Open(d *disk.Disk, c api.Config) (*Store, api.Errno) {
	if d == nil || !isConfig(c) {
		return nil, api.ErrArg
	}
	s := newStore(d, c)
	texts, e := readAll(d)
	if e != api.OK {
		return nil, e
	}
	var records [api.Files][]api.Record
	var taken [api.Files]int
	for f, text := range texts {
		records[f], taken[f] = frame.Scan(text)
	}
	for _, f := range s.files() {
		if e := cutTo(d, f, taken[f], len(texts[f])); e != api.OK {
			return nil, e
		}
		s.sizes[f] = taken[f]
	}
	s.recall(records)
	return s, api.OK
}

// newStore takes the disk from the store that held it, whatever comes of this one.
func newStore(d *disk.Disk, c api.Config) *Store {
	return &Store{
		disk: d, holder: d.Take(), shards: c.Shards, limit: c.Last,
		sizes: map[int]int{}, known: history.History{}, open: map[int]*transaction{},
	}
}

func isConfig(c api.Config) bool {
	return c.Shards >= 1 && c.Shards <= api.MaxShards && c.Last >= 1 && c.Last <= api.MaxTime
}

// readAll syncs each file first, so that what is read here outlives a crash.
func readAll(d *disk.Disk) ([api.Files]string, api.Errno) {
	var texts [api.Files]string
	for f := range api.Files {
		if e := d.Sync(f); e != api.OK {
			return [api.Files]string{}, e
		}
		text, e := d.Read(f)
		if e != api.OK {
			return [api.Files]string{}, e
		}
		texts[f] = text
	}
	return texts, api.OK
}

// cutTo takes no turn where there is nothing to cut off.
func cutTo(d *disk.Disk, f, n, size int) api.Errno {
	if n == size {
		return api.OK
	}
	return d.Cut(f, n)
}

// files tells the logs and the book, in the order in which they are worked on.
func (s *Store) files() []int {
	var l []int
	for f := range s.shards {
		l = append(l, f)
	}
	return append(l, api.Book)
}

// recall makes known what the records of the files tell.
func (s *Store) recall(records [api.Files][]api.Record) {
	from := newestImage(records)
	s.image = from.imagePlace
	s.last = from.time
	for _, r := range from.items {
		s.learn(r)
	}
	decided := timesOf(records[api.Book], api.Done)
	for _, log := range records[:s.shards] {
		for _, r := range log {
			if r.Time > from.time && counts(r, decided) {
				s.learn(r)
			}
		}
	}
	s.next = s.last
	for _, f := range s.files() {
		for _, r := range records[f] {
			s.next = max(s.next, r.Time)
		}
	}
	s.next++
}

func (s *Store) learn(r api.Record) {
	for _, w := range r.Writes {
		s.known.Add(r.Time, w)
	}
	s.last = max(s.last, r.Time)
}

// counts tells whether a log's record tells of a transaction that was done: a part needs a decision.
func counts(r api.Record, decided map[int]struct{}) bool {
	_, done := decided[r.Time]
	return r.Kind == api.One || r.Kind == api.Part && done
}

func timesOf(l []api.Record, kind int) map[int]struct{} {
	times := map[int]struct{}{}
	for _, r := range l {
		if r.Kind == kind {
			times[r.Time] = struct{}{}
		}
	}
	return times
}
