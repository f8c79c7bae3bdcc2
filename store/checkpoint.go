package store

import (
	"strings"

	"pavilion/api"
)

// Checkpoint writes an image, and empties the logs (P15).
func (s *Store) Checkpoint() api.Errno {
	if e := s.stands(); e != api.OK {
		return e
	}
	if s.image.generation >= api.MaxTime {
		return api.ErrSpent
	}
	place := s.image.next()
	text := s.imageText(place.generation)
	if len(text) > api.MaxFile {
		return api.ErrFull
	}
	if e := s.replaceLogs(place.file, text); e != api.OK {
		s.failed = true
		return e
	}
	s.image = place
	clear(s.sizes)
	return api.OK
}

// imageText tells all that is there, but nothing of what has been.
func (s *Store) imageText(generation int) string {
	var b strings.Builder
	b.WriteString(encode(api.Record{Kind: api.Image, Time: s.last, Generation: generation}))
	for _, k := range s.known.Keys() {
		if v := s.known.At(k, s.last); v.There {
			b.WriteString(encode(api.Record{Kind: api.Item, Time: v.Time, Writes: []api.Write{{Key: k, Value: v.Value}}}))
		}
	}
	b.WriteString(encode(api.Record{Kind: api.Whole}))
	return b.String()
}

// replaceLogs empties the logs only once the image lasts that tells what they told.
func (s *Store) replaceLogs(f int, text string) api.Errno {
	if e := s.disk.Cut(f, 0); e != api.OK {
		return e
	}
	if e := layText(s.disk, f, text); e != api.OK {
		return e
	}
	for _, log := range s.files() {
		if e := s.disk.Cut(log, 0); e != api.OK {
			return e
		}
	}
	return api.OK
}
