package frame

import (
	"strings"

	"pavilion/api"
)

// Scan tells the records of the frames with which a text begins, and how many bytes these are (P6).
func Scan(s string) ([]api.Record, int) {
	var records []api.Record
	taken := 0
	for {
		r, size := first(s[taken:])
		if size == 0 {
			return records, taken
		}
		records = append(records, r)
		taken += size
	}
}

// first tells the record of the frame with which a text begins, and the frame's size: 0, if there is no frame.
func first(s string) (api.Record, int) {
	if len(s) < head {
		return api.Record{}, 0
	}
	size := head + int(s[head-1]) + tail
	if len(s) < size {
		return api.Record{}, 0
	}
	r := guess(int(s[1]), s[head:size-tail])
	// What a frame is, Encode alone tells: so the guess needs no checks of its own.
	made, e := Encode(r)
	if e != api.OK || made != s[:size] {
		return api.Record{}, 0
	}
	return r, size
}

// guess tells the record that a payload tells if it is a sound one; of any other, something that does not encode to it.
func guess(kind int, payload string) api.Record {
	r := api.Record{Kind: kind}
	c := cursor{payload}
	switch kind {
	case api.One, api.Part, api.Item:
		r.Time = c.number(2)
		r.Writes = c.writes()
	case api.Done:
		r.Time = c.number(2)
	case api.Image:
		r.Time = c.number(2)
		r.Generation = c.number(2)
	}
	return r
}

// cursor is what is still to be read of a payload; behind its end there is nothing, which reads as 0.
type cursor struct{ rest string }

func (c *cursor) take(size int) string {
	size = min(size, len(c.rest))
	s := c.rest[:size]
	c.rest = c.rest[size:]
	return s
}

func (c *cursor) number(size int) int {
	v := 0
	for _, b := range []byte(c.take(size)) {
		v = v<<8 | int(b)
	}
	return v
}

// text is a copy, so that an answer does not hold on to all that was scanned.
func (c *cursor) text() string {
	return strings.Clone(c.take(c.number(1)))
}

func (c *cursor) writes() []api.Write {
	var l []api.Write
	for range c.number(1) {
		dead := c.number(1) == 1
		key := c.text()
		value := c.text()
		l = append(l, api.Write{Key: key, Dead: dead, Value: value})
	}
	return l
}
