// Package frame: records, the frames that tell them, and the frames' check sum.
package frame

import "pavilion/api"

// A frame is a mark, a kind and a length (its head), a payload, and a sum (its tail).
const (
	mark = 'p'
	head = 3
	tail = 4
)

// Encode tells a record's frame (P5).
func Encode(r api.Record) (string, api.Errno) {
	if !isRecord(r) {
		return "", api.ErrArg
	}
	p := payload(r)
	b := []byte{mark}
	b = appendNumber(b, r.Kind, 1)
	b = appendText(b, string(p))
	b = appendNumber(b, Sum(string(b)), tail)
	return string(b), api.OK
}

func payload(r api.Record) []byte {
	switch r.Kind {
	case api.One, api.Part, api.Item:
		return appendWrites(appendNumber(nil, r.Time, 2), r.Writes)
	case api.Done:
		return appendNumber(nil, r.Time, 2)
	case api.Image:
		return appendNumber(appendNumber(nil, r.Time, 2), r.Generation, 2)
	}
	return nil
}

func appendWrites(b []byte, l []api.Write) []byte {
	b = appendNumber(b, len(l), 1)
	for _, w := range l {
		b = appendFlag(b, w.Dead)
		b = appendText(b, w.Key)
		b = appendText(b, w.Value)
	}
	return b
}

func appendFlag(b []byte, set bool) []byte {
	if set {
		return append(b, 1)
	}
	return append(b, 0)
}

// appendText lays a text behind its length in one byte: isRecord lets no longer one come here.
func appendText(b []byte, s string) []byte {
	return append(appendNumber(b, len(s), 1), s...)
}

func appendNumber(b []byte, v, size int) []byte {
	for i := range size {
		b = append(b, byte(v>>(8*(size-1-i))))
	}
	return b
}
