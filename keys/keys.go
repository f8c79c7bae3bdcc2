// Package keys: what a key and a value are, and to which shard a key belongs.
package keys

import "pavilion/api"

// IsKey tells whether a text is a key.
func IsKey(s string) bool { return len(s) >= 1 && len(s) <= api.MaxKey }

// IsValue tells whether a text is a value.
func IsValue(s string) bool { return len(s) <= api.MaxValue }

// Shard tells to which log a key belongs (P3).
func Shard(key string, shards int) (int, api.Errno) {
	if shards < 1 || shards > api.MaxShards {
		return 0, api.ErrArg
	}
	if !IsKey(key) {
		return 0, api.ErrKey
	}
	return int(hash(key) % uint32(shards)), api.OK
}

// hash leans on the wrap-round of 32 bits, which is the modulus that P3 names.
func hash(key string) uint32 {
	h := uint32(0)
	for i := range len(key) {
		h = 31*h + uint32(key[i])
	}
	return h
}
