package store

import (
	"slices"
	"strings"

	"pavilion/api"
	"pavilion/keys"
)

type transaction struct {
	snapshot int
	writes   []api.Write // by rising keys, as records have them
}

// write takes all of some writes, one after the other, or none: a refused call leaves the transaction as it was.
func (x *transaction) write(more []api.Write) api.Errno {
	if !all(more, hasKey) {
		return api.ErrKey
	}
	if !all(more, hasValue) {
		return api.ErrValue
	}
	l := slices.Clone(x.writes)
	for _, w := range more {
		l = set(l, w)
		if len(l) > api.MaxWrites {
			return api.ErrMany
		}
	}
	x.writes = l
	return api.OK
}

// written tells what the transaction wrote to a key, if it did.
func (x *transaction) written(key string) (api.Write, bool) {
	i, there := place(x.writes, key)
	if !there {
		return api.Write{}, false
	}
	return x.writes[i], true
}

func all(l []api.Write, holds func(api.Write) bool) bool {
	for _, w := range l {
		if !holds(w) {
			return false
		}
	}
	return true
}

func hasKey(w api.Write) bool { return keys.IsKey(w.Key) }

func hasValue(w api.Write) bool { return keys.IsValue(w.Value) }

// set copies the texts, as they are the caller's.
func set(l []api.Write, w api.Write) []api.Write {
	w.Key, w.Value = strings.Clone(w.Key), strings.Clone(w.Value)
	i, there := place(l, w.Key)
	if !there {
		return slices.Insert(l, i, w)
	}
	l[i] = w
	return l
}

func place(l []api.Write, key string) (int, bool) {
	return slices.BinarySearchFunc(l, key, func(w api.Write, key string) int { return strings.Compare(w.Key, key) })
}
