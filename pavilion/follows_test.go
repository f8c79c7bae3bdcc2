package pavilion_test

import (
	"maps"
	"math"
	"strconv"
	"strings"
	"testing"

	"pavilion/api"
	"pavilion/pavilion"
)

// view is what a transaction sees, and what it wrote.
type view struct {
	all    map[string]string
	writes []api.Write
}

func lay(all map[string]string, l []api.Write) map[string]string {
	all = maps.Clone(all)
	for _, w := range l {
		delete(all, w.Key)
		if !w.Dead {
			all[w.Key] = w.Value
		}
	}
	return all
}

// shadow goes beside a store: it knows what the transactions made that committed, and what each open one sees.
type shadow struct {
	acts
	disk   *pavilion.Disk
	store  *pavilion.Store
	shards int
	made   map[string]string
	doubt  map[string]string // what there is if a Commit was done that answered ErrDevice
	open   map[int]*view
	time   int // the last one that a Commit answered
}

func scanned(t *testing.T, s *pavilion.Store, n int) map[string]string {
	t.Helper()
	l, e := s.Scan(n, "", behindAll, math.MaxInt)
	wants(t, "P11: Scan", e, api.OK)
	all := map[string]string{}
	for _, p := range l {
		all[p.Key] = p.Value
	}
	return all
}

// reopen opens until no turn fails, and looks at what is there.
func (x *shadow) reopen(t *testing.T) {
	t.Helper()
	s, e := pavilion.Open(x.disk, api.Config{Shards: x.shards, Last: api.MaxTime})
	for range api.Files {
		if e != api.ErrDevice {
			break
		}
		s, e = pavilion.Open(x.disk, api.Config{Shards: x.shards, Last: api.MaxTime})
	}
	wants(t, "P9: Open", e, api.OK)
	x.store, x.open = s, map[int]*view{}
	n := begun(t, s)
	all := scanned(t, s, n)
	wants(t, "P13: Abort", s.Abort(n), api.OK)
	if !maps.Equal(all, x.made) && (x.doubt == nil || !maps.Equal(all, x.doubt)) {
		t.Fatalf("P19: behind Open there is %q, want %q or, if it is there, %q", all, x.made, x.doubt)
	}
	if next := s.Status().Next; next <= x.time {
		t.Fatalf("P19: the next time is %d, though a Commit had %d", next, x.time)
	}
	x.made, x.doubt = all, nil
}

// fails opens again if a call answered ErrDevice, now and then behind a crash or two.
func (x *shadow) fails(t *testing.T, e api.Errno) {
	t.Helper()
	if e != api.ErrDevice {
		return
	}
	for range x.next() % 3 {
		x.disk.Crash(x.next()%60-3, strings.Repeat("J", x.next()%9))
	}
	x.reopen(t)
}

func (x *shadow) write(t *testing.T, n int) {
	t.Helper()
	w := api.Write{Key: string(rune('a' + x.next()%9)), Value: strconv.Itoa(x.next())}
	v := x.open[n]
	l := append(v.writes, w)
	var e api.Errno
	if x.next()%4 == 0 {
		l[len(l)-1] = api.Write{Key: w.Key, Dead: true}
		e = x.store.Delete(n, w.Key)
	} else {
		e = x.store.Put(n, api.Pair{Key: w.Key, Value: w.Value})
	}
	if e == api.OK {
		v.all, v.writes = lay(v.all, l[len(l)-1:]), l
	}
}

func (x *shadow) commit(t *testing.T, n int) {
	t.Helper()
	v := x.open[n]
	time, e := x.store.Commit(n)
	switch e {
	case api.OK:
		if len(v.writes) > 0 && time <= x.time {
			t.Fatalf("P19: Commit is %d behind %d", time, x.time)
		}
		x.time = max(x.time, time)
		x.made = lay(x.made, v.writes)
	case api.ErrDevice:
		x.doubt = lay(x.made, v.writes)
	case api.ErrFull:
		return
	}
	delete(x.open, n)
	x.fails(t, e)
}

// end commits an open transaction, or aborts it.
func (x *shadow) end(t *testing.T, n int) {
	t.Helper()
	if x.next()%5 == 0 {
		wants(t, "P13: Abort", x.store.Abort(n), api.OK)
		delete(x.open, n)
		return
	}
	x.commit(t, n)
}

func (x *shadow) begin(t *testing.T) {
	t.Helper()
	if n, e := x.store.Begin(); e == api.OK {
		x.open[n] = &view{all: maps.Clone(x.made)}
	}
}

// which tells one that is open; there is one.
func (x *shadow) which() int {
	v := x.next() % len(x.open)
	for n := 0; ; n++ {
		if x.open[n] == nil {
			continue
		}
		if v == 0 {
			return n
		}
		v--
	}
}

func (x *shadow) act(t *testing.T) {
	t.Helper()
	kind := x.next() % 24
	switch {
	case kind == 0:
		x.disk.Crash(x.next()%60-3, strings.Repeat("J", x.next()%9))
		x.reopen(t)
	case kind == 1:
		x.reopen(t)
	case kind == 2:
		wants(t, "P8: Trouble", x.disk.Trouble(x.next()%api.Files, x.next()%5), api.OK)
	case kind < 5:
		x.fails(t, x.store.Checkpoint())
	case kind == 5:
		_, e := x.store.Prune()
		wants(t, "P16: Prune", e, api.OK)
	case kind < 10 || len(x.open) == 0:
		x.begin(t)
	case kind < 18:
		x.write(t, x.which())
	default:
		x.end(t, x.which())
	}
	for n, v := range x.open {
		if all := scanned(t, x.store, n); !maps.Equal(all, v.all) {
			t.Fatalf("P18: transaction %d sees %q, want %q", n, all, v.all)
		}
	}
}

// holdShadow does what the bytes tell, the first of which tells how many shards there are.
func holdShadow(t *testing.T, b []byte) {
	t.Helper()
	x := shadow{acts: acts{b}, disk: pavilion.NewDisk(), made: map[string]string{}}
	x.shards = 1 + x.next()%api.MaxShards
	x.reopen(t)
	for len(x.rest) > 0 {
		x.act(t)
	}
	x.disk.Crash(0, "")
	x.reopen(t)
}

func TestWhateverCrashes(t *testing.T) {
	for seed := range uint32(250) {
		holdShadow(t, someBytes(seed, 1500))
	}
}

func FuzzCrashes(f *testing.F) {
	for seed := range uint32(8) {
		f.Add(someBytes(seed, 400))
	}
	f.Fuzz(holdShadow)
}

// tear lets a turn of the Checkpoint fail that comes behind some images, and may crash: all is there that was, by the old image and the logs or by the new image.
func tear(t *testing.T, images int, fails turn, crash func(d *pavilion.Disk)) {
	t.Helper()
	const shards = 2
	d := pavilion.NewDisk()
	s := opened(t, d, shards)
	for i := range images {
		does(t, s, "a="+strconv.Itoa(i)+" b=0 gone=1", i+1)
		checkpoints(t, s)
	}
	does(t, s, "gone- b=1", images+1)
	does(t, s, "a=last", images+2)
	if fails.file == 5 {
		fails.file += images % 2
	}
	wants(t, "P8: Trouble", d.Trouble(fails.file, fails.k), api.OK)
	wants(t, "P15: Checkpoint with a turn that fails", s.Checkpoint(), api.ErrDevice)
	crash(d)
	s = opened(t, d, shards)
	has(t, s, "a=last b=1")
	does(t, s, "b=2", images+3)
	checkpoints(t, s)
	d.Crash(0, "")
	s = opened(t, d, shards)
	has(t, s, "a=last b=2")
	isAt(t, s, images+3, images+4, images+3, 0, 2)
}

func TestTornCheckpoints(t *testing.T) {
	for images := range 3 {
		for _, fails := range checkpointTurns(2) {
			tear(t, images, fails, func(*pavilion.Disk) {})
			for _, keep := range []int{0, 1, 10, 11, 12, 25, 26, 40, 1000} {
				for _, junk := range []string{"", "p\x06\x00", strings.Repeat("J", 99)} {
					tear(t, images, fails, func(d *pavilion.Disk) { d.Crash(keep, junk) })
				}
			}
		}
	}
}

// teller tells all that is seen in a run.
type teller struct {
	acts
	disk  *pavilion.Disk
	store *pavilion.Store
	tidy  bool
	lines []string
}

func (x *teller) tell(what string, n int, e api.Errno) {
	x.lines = append(x.lines, what+" "+strconv.Itoa(n)+" "+strconv.Itoa(int(e)))
}

// tidies may make an image and forget, and tells nothing of it.
func (x *teller) tidies(t *testing.T, which int) {
	t.Helper()
	if !x.tidy {
		return
	}
	if which%3 != 0 {
		checkpoints(t, x.store)
	}
	if which%3 != 1 {
		_, e := x.store.Prune()
		wants(t, "P16: Prune", e, api.OK)
	}
}

func (x *teller) act(t *testing.T, shards int) {
	t.Helper()
	kind, n, v := x.next()%16, x.next()%6, x.next()
	key, value := string(rune('a'+v%7)), strconv.Itoa(v%10)
	switch {
	case kind == 0:
		x.disk.Crash(v%20, "J")
		x.store = opened(t, x.disk, shards)
	case kind < 3:
		x.tidies(t, v)
	case kind < 6:
		n, e := x.store.Begin()
		x.tell("Begin", n, e)
	case kind < 9:
		x.tell("Put", n, x.store.Put(n, api.Pair{Key: key, Value: value}))
	case kind < 10:
		x.tell("Delete", n, x.store.Delete(n, key))
	case kind < 11:
		x.tell("Abort", n, x.store.Abort(n))
	case kind < 13:
		time, e := x.store.Commit(n)
		x.tell("Commit", time, e)
	default:
		l, e := x.store.Scan(n, "", behindAll, 9)
		x.tell("Scan of "+told(l), n, e)
		found, e := x.store.Get(n, key, "a")
		for _, f := range found {
			x.tell("Get of "+f.Value+strconv.FormatBool(f.There), n, e)
		}
	}
}

func tellRun(t *testing.T, b []byte, shards int, tidy bool) []string {
	t.Helper()
	x := teller{acts: acts{b}, disk: pavilion.NewDisk(), tidy: tidy}
	x.store = opened(t, x.disk, shards)
	for len(x.rest) > 0 {
		x.act(t, shards)
	}
	return x.lines
}

// TestTidyingAndShardsAreNotSeen: the same is seen with images and forgetting as without, and with any number of shards.
func TestTidyingAndShardsAreNotSeen(t *testing.T) {
	for seed := range uint32(200) {
		b := someBytes(seed, 600)
		want := tellRun(t, b, 1, false)
		for shards := 1; shards <= api.MaxShards; shards++ {
			for _, tidy := range []bool{false, true} {
				got := tellRun(t, b, shards, tidy)
				for i := range min(len(want), len(got)) {
					if got[i] != want[i] {
						t.Fatalf("P20: run %d with %d shards, tidied %t, tells %q, want %q", seed, shards, tidy, got[i], want[i])
					}
				}
				if len(got) != len(want) {
					t.Fatalf("P20: run %d with %d shards, tidied %t, tells %d lines, want %d", seed, shards, tidy, len(got), len(want))
				}
			}
		}
	}
}

// TestSnapshotsStay: others commit, abort and are refused, images are made and versions forgotten, and nothing of it is seen.
func TestSnapshotsStay(t *testing.T) {
	for shards := 1; shards <= api.MaxShards; shards++ {
		s := opened(t, pavilion.NewDisk(), shards)
		does(t, s, "a=1 b=1 c=1", 1)
		old := begun(t, s)
		does(t, s, "a=2 b- d=2", 2)
		own := begun(t, s)
		writes(t, s, own, "c=own e=own a-")
		for i := range 4 {
			does(t, s, "a="+strconv.Itoa(i)+" b=3 c- f=1", 3+i)
			n := begun(t, s)
			writes(t, s, n, "d=no")
			wants(t, "P13: Abort", s.Abort(n), api.OK)
			if i%2 == 0 {
				checkpoints(t, s)
			}
			prunes(t, s, 0)
			sees(t, s, old, "a=1 b=1 c=1")
			sees(t, s, own, "c=own d=2 e=own")
		}
		refuses(t, s, own, api.ErrConflict)
		sees(t, s, old, "a=1 b=1 c=1")
		has(t, s, "a=3 b=3 d=2 f=1")
		commits(t, s, old, 1)
		prunes(t, s, 3+3+16-4)
		has(t, s, "a=3 b=3 d=2 f=1")
	}
}
