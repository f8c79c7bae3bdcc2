package pavilion_test

import (
	"math"
	"testing"

	"pavilion/api"
	"pavilion/pavilion"
)

// plainByte knows of itself whether it lasts.
type plainByte struct {
	b     byte
	lasts bool
}

// plainFile counts its turns up, where the disk may reckon as it likes.
type plainFile struct {
	bytes       []plainByte
	turns, fail int
}

func (x *plainFile) fails() bool {
	x.turns++
	return x.turns == x.fail
}

func (x *plainFile) text() string {
	var s []byte
	for _, p := range x.bytes {
		s = append(s, p.b)
	}
	return string(s)
}

func (x *plainFile) lay(s string) api.Errno {
	if x.fails() {
		return api.ErrDevice
	}
	if len(x.bytes)+len(s) > 2000 {
		return api.ErrFull
	}
	for _, b := range []byte(s) {
		x.bytes = append(x.bytes, plainByte{b: b})
	}
	return api.OK
}

func (x *plainFile) sync() api.Errno {
	if x.fails() {
		return api.ErrDevice
	}
	for i := range x.bytes {
		x.bytes[i].lasts = true
	}
	return api.OK
}

func (x *plainFile) cut(n int) api.Errno {
	if x.fails() {
		return api.ErrDevice
	}
	if n < 0 || n > len(x.bytes) {
		return api.ErrArg
	}
	var left []plainByte
	for _, p := range x.bytes[:n] {
		left = append(left, plainByte{p.b, true})
	}
	x.bytes = left
	return api.OK
}

func (x *plainFile) read() (string, api.Errno) {
	if x.fails() {
		return "", api.ErrDevice
	}
	return x.text(), api.OK
}

func (x *plainFile) crash(keep int, junk string) {
	var left []plainByte
	for _, p := range x.bytes {
		if p.lasts {
			left = append(left, p)
		} else if keep > 0 {
			keep--
			left = append(left, plainByte{p.b, true})
		} else if junk != "" {
			left = append(left, plainByte{junk[0], true})
			junk = junk[1:]
		}
	}
	*x = plainFile{bytes: left}
}

// acts tells what to do next from bytes; when they are spent, it is all 0.
type acts struct{ rest []byte }

func (a *acts) next() int {
	if len(a.rest) == 0 {
		return 0
	}
	v := a.rest[0]
	a.rest = a.rest[1:]
	return int(v)
}

func (a *acts) text() string {
	size := a.next()
	if size > 240 {
		size = (size - 240) * 150
	}
	s := make([]byte, size)
	for i := range s {
		s[i] = byte(len(a.rest) + i)
	}
	return string(s)
}

// number tells mostly small ones, and now and then an end of the kind.
func (a *acts) number() int {
	switch v := a.next(); v {
	case 255:
		return math.MaxInt
	case 254:
		return math.MinInt
	default:
		return v - 3
	}
}

// act does one act to both, and holds the answers against each other.
func act(t *testing.T, a *acts, d *pavilion.Disk, plain []plainFile) {
	t.Helper()
	f := a.next() % len(plain)
	x := &plain[f]
	switch a.next() % 8 {
	case 0, 1:
		s := a.text()
		wants(t, "P7: Append", d.Append(f, s), x.lay(s))
	case 2:
		wants(t, "P7: Sync", d.Sync(f), x.sync())
	case 3:
		n := a.number()
		if n > 100 {
			n = len(x.bytes) - n%7 + 1
		}
		wants(t, "P7: Cut", d.Cut(f, n), x.cut(n))
	case 4, 5:
		want, e := x.read()
		if s, got := d.Read(f); s != want || got != e {
			t.Fatalf("P7: Read(%d) = %d bytes, %d, want %d bytes, %d", f, len(s), got, len(want), e)
		}
	case 6:
		k := a.next()%5 - 1
		if k < 0 {
			wants(t, "P8: Trouble below 0", d.Trouble(f, k), api.ErrArg)
			return
		}
		wants(t, "P8: Trouble", d.Trouble(f, k), api.OK)
		x.turns, x.fail = 0, k
	case 7:
		keep, junk := a.number(), a.text()
		d.Crash(keep, junk)
		for i := range plain {
			plain[i].crash(keep, junk)
		}
	}
}

// holdDisks does what the bytes tell to a disk and to plain files, and looks at all of them at the end.
// The first byte tells how many files are worked on: where they are few, each is filled, fails and crashes often.
func holdDisks(t *testing.T, b []byte) {
	t.Helper()
	d := pavilion.NewDisk()
	a := acts{b}
	plain := make([]plainFile, 1+a.next()%7)
	for len(a.rest) > 0 {
		act(t, &a, d, plain)
	}
	d.Crash(1, "J")
	for f := range plain {
		plain[f].crash(1, "J")
		holds(t, d, f, plain[f].text())
	}
}

// someBytes are always the same ones for the same seed.
func someBytes(seed uint32, size int) []byte {
	b := make([]byte, size)
	for i := range b {
		seed = seed*1664525 + 1013904223
		b[i] = byte(seed >> 24)
	}
	return b
}

func TestDiskAgainstPlainFiles(t *testing.T) {
	for seed := range uint32(300) {
		holdDisks(t, someBytes(seed, 600))
	}
}

func FuzzDisk(f *testing.F) {
	for seed := range uint32(8) {
		f.Add(someBytes(seed, 200))
	}
	f.Fuzz(holdDisks)
}
