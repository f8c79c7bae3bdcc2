// Package history: what keys have been, time by time.
package history

import (
	"maps"
	"slices"
	"sort"

	"pavilion/api"
)

type version struct {
	time  int
	found api.Found
}

// History has each key's versions by rising times, no two of them of one time.
type History map[string][]version

// Add lays down what was written to a key at a time; it takes the place of what was written to it at that time ahead of it.
func (h History) Add(time int, w api.Write) {
	l := h[w.Key]
	v := version{time: time, found: api.Found{There: !w.Dead, Value: w.Value}}
	n := upTo(l, time)
	if n > 0 && l[n-1].time == time {
		l[n-1] = v
		return
	}
	h[w.Key] = slices.Insert(l, n, v)
}

// At tells what there is of a key at a time.
func (h History) At(key string, time int) api.Found {
	l := h[key]
	n := upTo(l, time)
	if n == 0 {
		return api.Found{}
	}
	return l[n-1].found
}

// Newest tells the time of a key's newest version, and 0, which is ahead of all times, if it has none.
func (h History) Newest(key string) int {
	l := h[key]
	if len(l) == 0 {
		return 0
	}
	return l[len(l)-1].time
}

// Keys tells the keys that have versions, in their order.
func (h History) Keys() []string { return slices.Sorted(maps.Keys(h)) }

// Count tells how many versions there are of all keys together.
func (h History) Count() int {
	n := 0
	for _, l := range h {
		n += len(l)
	}
	return n
}

// upTo tells how many of the versions are of this time or an older one.
func upTo(l []version, time int) int {
	return sort.Search(len(l), func(i int) bool { return l[i].time > time })
}
