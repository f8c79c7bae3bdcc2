// Package disk: files of bytes, of which a crash leaves what lasts.
package disk

import "pavilion/api"

// Disk holds each file for itself, so that several may be worked on beside one another. As it begins, all are empty.
type Disk struct {
	files  [api.Files]file
	holder int // the number of the last one who took the disk; a crash takes it too
}

// Take gives the disk to a new holder, and tells the number by which it is known: whoever held the disk ahead of that does so no longer.
func (d *Disk) Take() int {
	d.holder++
	return d.holder
}

// IsHeldBy tells whether the holder of that number holds the disk still.
func (d *Disk) IsHeldBy(holder int) bool { return d.holder == holder }

// Append lays bytes behind those of a file (P7).
func (d *Disk) Append(f int, s string) api.Errno {
	x, e := d.turn(f)
	if e != api.OK {
		return e
	}
	return x.lay(s)
}

// Sync makes a file's bytes lasting (P7).
func (d *Disk) Sync(f int) api.Errno {
	x, e := d.turn(f)
	if e != api.OK {
		return e
	}
	x.keepAll()
	return api.OK
}

// Cut shortens a file (P7).
func (d *Disk) Cut(f int, n int) api.Errno {
	x, e := d.turn(f)
	if e != api.OK {
		return e
	}
	return x.cut(n)
}

// Read tells a file's bytes (P7).
func (d *Disk) Read(f int) (string, api.Errno) {
	x, e := d.turn(f)
	if e != api.OK {
		return "", e
	}
	return string(x.bytes), api.OK
}

// Trouble lets the k-th turn of a file from now on fail (P8).
func (d *Disk) Trouble(f int, k int) api.Errno {
	x := d.find(f)
	if x == nil {
		return api.ErrFile
	}
	if k < 0 {
		return api.ErrArg
	}
	x.trouble = k
	return api.OK
}

// Crash loses what does not last (P8).
func (d *Disk) Crash(keep int, junk string) {
	if d == nil {
		return
	}
	for f := range d.files {
		d.files[f].crash(keep, junk)
	}
	d.Take()
}

// find tells nil where there is no such file; without a disk there is none.
func (d *Disk) find(f int) *file {
	if d == nil || f < 0 || f >= api.Files {
		return nil
	}
	return &d.files[f]
}

// turn counts ahead of all that a call may find wrong: a refused call is a turn too.
func (d *Disk) turn(f int) (*file, api.Errno) {
	x := d.find(f)
	if x == nil {
		return nil, api.ErrFile
	}
	if x.fails() {
		return nil, api.ErrDevice
	}
	return x, api.OK
}
