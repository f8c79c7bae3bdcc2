package disk

import "pavilion/api"

type file struct {
	bytes   []byte
	lasting int // how many of the first bytes outlive a crash
	trouble int // which turn from now on fails; 0: none
}

// fails counts a turn, and tells whether it is the one that fails.
func (x *file) fails() bool {
	if x.trouble == 0 {
		return false
	}
	x.trouble--
	return x.trouble == 0
}

func (x *file) lay(s string) api.Errno {
	if len(s) > api.MaxFile-len(x.bytes) {
		return api.ErrFull
	}
	x.bytes = append(x.bytes, s...)
	return api.OK
}

func (x *file) keepAll() { x.lasting = len(x.bytes) }

func (x *file) cut(n int) api.Errno {
	if n < 0 || n > len(x.bytes) {
		return api.ErrArg
	}
	x.bytes = x.bytes[:n]
	x.keepAll()
	return api.OK
}

func (x *file) crash(keep int, junk string) {
	loose := len(x.bytes) - x.lasting
	kept := min(max(keep, 0), loose)
	junk = junk[:min(len(junk), loose-kept)]
	x.bytes = append(x.bytes[:x.lasting+kept], junk...)
	x.keepAll()
	x.trouble = 0
}
