// Package history: what keys have been, time by time.
package history

import (
	"maps"
	"slices"
	"sort"

	"pavilion/api"
)

// Version is what was written to a key, and when. Without a time it is none.
type Version struct {
	Time int
	api.Found
}

// History has each key's versions by rising times, no two of them of one time, and no key without any.
type History map[string][]Version

// Add lays down what was written to a key at a time; it takes the place of what was written to it at that time ahead of it.
func (h History) Add(time int, w api.Write) {
	l := h[w.Key]
	v := Version{Time: time, Found: api.Found{There: !w.Dead, Value: w.Value}}
	n := upTo(l, time)
	if n > 0 && l[n-1].Time == time {
		l[n-1] = v
		return
	}
	h[w.Key] = slices.Insert(l, n, v)
}

// At tells a key's newest version up to a time.
func (h History) At(key string, time int) Version {
	l := h[key]
	n := upTo(l, time)
	if n == 0 {
		return Version{}
	}
	return l[n-1]
}

// Newest tells the time of a key's newest version, and 0, which is ahead of all times, if it has none.
func (h History) Newest(key string) int {
	l := h[key]
	if len(l) == 0 {
		return 0
	}
	return l[len(l)-1].Time
}

// Keys tells the keys that have versions, in their order.
func (h History) Keys() []string { return slices.Sorted(maps.Keys(h)) }

// Count tells how many versions there are of all keys together.
func (h History) Count() int {
	n := 0
	for _, l := range h {
		n += len(l)
	}
	return n
}

// Prune lets go what nobody sees who looks at the water or at a later time, and tells how many versions these were.
func (h History) Prune(water int) int {
	gone := 0
	for _, key := range h.Keys() {
		n := unseen(h[key], water)
		h.drop(key, n)
		gone += n
	}
	return gone
}

// drop lets a key's n oldest versions go.
func (h History) drop(key string, n int) {
	l := h[key]
	if n == len(l) {
		delete(h, key)
		return
	}
	h[key] = slices.Delete(l, 0, n)
}

// unseen tells how many of the oldest versions tell nothing from the water on: a dead one without any ahead of it is as none.
func unseen(l []Version, water int) int {
	n := upTo(l, water)
	if n > 0 && l[n-1].There {
		return n - 1
	}
	return n
}

// upTo tells how many of the versions are of this time or an older one.
func upTo(l []Version, time int) int {
	return sort.Search(len(l), func(i int) bool { return l[i].Time > time })
}
