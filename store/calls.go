package store

import (
	"slices"

	"pavilion/api"
	"pavilion/keys"
)

// Get tells what a transaction sees of keys (P11).
func (s *Store) Get(t int, names ...string) ([]api.Found, api.Errno) {
	x, e := s.find(t)
	if e != api.OK {
		return nil, e
	}
	l := make([]api.Found, 0, len(names))
	for _, k := range names {
		if !keys.IsKey(k) {
			return nil, api.ErrKey
		}
		l = append(l, s.look(x, k))
	}
	return l, api.OK
}

// Scan tells the keys that a transaction sees, in their order (P11).
func (s *Store) Scan(t int, from, to string, most int) ([]api.Pair, api.Errno) {
	x, e := s.find(t)
	if e != api.OK {
		return nil, e
	}
	if most < 0 {
		return nil, api.ErrArg
	}
	var l []api.Pair
	for _, k := range s.keysFor(x) {
		if len(l) == most {
			break
		}
		if k < from || k >= to {
			continue
		}
		if found := s.look(x, k); found.There {
			l = append(l, api.Pair{Key: k, Value: found.Value})
		}
	}
	return l, api.OK
}

// Put writes keys (P12).
func (s *Store) Put(t int, pairs ...api.Pair) api.Errno {
	x, e := s.find(t)
	if e != api.OK {
		return e
	}
	l := make([]api.Write, 0, len(pairs))
	for _, p := range pairs {
		l = append(l, api.Write{Key: p.Key, Value: p.Value})
	}
	return x.write(l)
}

// Delete writes keys dead (P12).
func (s *Store) Delete(t int, names ...string) api.Errno {
	x, e := s.find(t)
	if e != api.OK {
		return e
	}
	l := make([]api.Write, 0, len(names))
	for _, k := range names {
		l = append(l, api.Write{Key: k, Dead: true})
	}
	return x.write(l)
}

// look lets a transaction's own writes stand ahead of its snapshot.
func (s *Store) look(x *transaction, key string) api.Found {
	if w, there := x.written(key); there {
		return api.Found{There: !w.Dead, Value: w.Value}
	}
	return s.known.At(key, x.snapshot).Found
}

// keysFor tells each key once that the transaction may see, in their order.
func (s *Store) keysFor(x *transaction) []string {
	l := s.known.Keys()
	for _, w := range x.writes {
		if i, there := slices.BinarySearch(l, w.Key); !there {
			l = slices.Insert(l, i, w.Key)
		}
	}
	return l
}
