package pavilion_test

import (
	"strings"
	"testing"

	"pavilion/api"
	"pavilion/pavilion"
)

// keyOf tells a key of one byte that belongs to that shard.
func keyOf(t *testing.T, shard, shards int) string {
	t.Helper()
	for b := 'a'; b <= 'z'; b++ {
		if n, _ := pavilion.Shard(string(b), shards); n == shard {
			return string(b)
		}
	}
	t.Fatalf("P3: no key for shard %d of %d", shard, shards)
	return ""
}

// spread tells a write for each of some shards, as writesOf reads them, and what each of these shards has of it.
func spread(t *testing.T, shards int, of ...int) (string, [api.MaxShards]string) {
	t.Helper()
	var words []string
	var parts [api.MaxShards]string
	for _, f := range of {
		parts[f] = keyOf(t, f, shards) + "=v"
		words = append(words, parts[f])
	}
	return strings.Join(words, " "), parts
}

func TestOneRecord(t *testing.T) {
	for shards := 1; shards <= api.MaxShards; shards++ {
		for f := range shards {
			d := pavilion.NewDisk()
			s := opened(t, d, shards)
			text, _ := spread(t, shards, f)
			taken := turnsTaken(t, d, func() { does(t, s, text, 1) })
			var want [api.Files]int
			want[f] = 2
			if taken != want {
				t.Errorf("P14: a Commit within shard %d took the turns %v", f, taken)
			}
			d.Crash(0, "")
			for g := range api.Files {
				holds(t, d, g, map[int]string{f: record(api.One, 1, text)}[g])
			}
		}
	}
}

// TestExamplesOfCommits: as the document tells them.
func TestExamplesOfCommits(t *testing.T) {
	d := pavilion.NewDisk()
	s := opened(t, d, 2)
	n := begun(t, s)
	wants(t, "P12: Put", s.Put(n, api.Pair{Key: "a", Value: "x"}), api.OK)
	commits(t, s, n, 1)
	first := unhex(t, "70 01 08 0001 01 00 01 61 01 78 1af8fc15")
	for f := range api.Files {
		holds(t, d, f, map[int]string{1: first}[f])
	}
	n = begun(t, s)
	wants(t, "P12: Put", s.Put(n, api.Pair{Key: "b", Value: "y"}, api.Pair{Key: "a", Value: "z"}), api.OK)
	commits(t, s, n, 2)
	for f := range api.Files {
		holds(t, d, f, map[int]string{0: record(api.Part, 2, "b=y"), 1: first + record(api.Part, 2, "a=z"), api.Book: record(api.Done, 2, "")}[f])
	}
}

// TestRecordsRise: the writes of a record stand by rising keys, each once, as it was written last.
func TestRecordsRise(t *testing.T) {
	d := pavilion.NewDisk()
	s := opened(t, d, 1)
	does(t, s, "c=1 a=2 b=1 aa- b=3 \xff=4 c- aa=5 B=", 1)
	holds(t, d, 0, record(api.One, 1, "B= a=2 aa=5 b=3 c- \xff=4"))
	d = pavilion.NewDisk()
	s = opened(t, d, 2)
	does(t, s, "d=1 c=1 b- a=1 f=1 e-", 1)
	holds(t, d, 0, record(api.Part, 1, "b- d=1 f=1"))
	holds(t, d, 1, record(api.Part, 1, "a=1 c=1 e-"))
	holds(t, d, api.Book, record(api.Done, 1, ""))
	does(t, s, "none-", 2)
	f, _ := pavilion.Shard("none", 2)
	if text := read(t, d, f); !strings.HasSuffix(text, record(api.One, 2, "none-")) {
		t.Errorf("P12: a key that is not there was not written dead: %x", text)
	}
}

func TestParts(t *testing.T) {
	for shards := 2; shards <= api.MaxShards; shards++ {
		for set := range 1 << shards {
			var of []int
			for f := range shards {
				if set>>f&1 == 1 {
					of = append(of, f)
				}
			}
			if len(of) < 2 {
				continue
			}
			text, parts := spread(t, shards, of...)
			d := pavilion.NewDisk()
			s := opened(t, d, shards)
			taken := turnsTaken(t, d, func() { does(t, s, text, 1) })
			for g := range api.Files {
				want := 0
				if g == api.Book || g < shards && parts[g] != "" {
					want = 2
				}
				if taken[g] != want {
					t.Errorf("P14: a Commit in the shards %v took %d turns of file %d, want %d", of, taken[g], g, want)
				}
			}
			d.Crash(0, "")
			for g, part := range parts {
				if part != "" {
					part = record(api.Part, 1, part)
				}
				holds(t, d, g, part)
			}
			holds(t, d, api.Book, record(api.Done, 1, ""))
			s = opened(t, d, shards)
			isAt(t, s, 1, 2, 1, 0, len(of))
		}
	}
}

// failsAt lets a Commit in all four shards fail at one turn, and tells the disk and the store, and how many turns the other files had.
func failsAt(t *testing.T, f, k int) (*pavilion.Disk, *pavilion.Store, [api.Files]int) {
	t.Helper()
	d := pavilion.NewDisk()
	s := opened(t, d, 4)
	text, _ := spread(t, 4, 0, 1, 2, 3)
	n := begun(t, s)
	writes(t, s, n, text)
	taken := turnsTaken(t, d, func() {
		wants(t, "P8: Trouble", d.Trouble(f, k), api.OK)
		refuses(t, s, n, api.ErrDevice)
	})
	return d, s, taken
}

func TestFailuresOfParts(t *testing.T) {
	all, parts := spread(t, 4, 0, 1, 2, 3)
	for f := range api.MaxShards {
		for k := 1; k <= 2; k++ {
			d, s, taken := failsAt(t, f, k)
			isAt(t, s, 0, 2, 0, 1, 0)
			isOver(t, "a turn that failed", s)
			isAt(t, s, 0, 2, 0, 1, 0)
			for g := range api.MaxShards {
				// The others are done all the same, which their Sync shows.
				if g != f && taken[g] != 2 {
					t.Errorf("P14: shard %d took %d turns beside the failure of shard %d, want 2", g, taken[g], f)
				}
			}
			if taken[api.Book] != 0 {
				t.Errorf("P14: the book had %d turns behind the failure of shard %d", taken[api.Book], f)
			}
			d.Crash(0, "")
			for g := range api.MaxShards {
				want := ""
				if g != f {
					want = record(api.Part, 1, parts[g])
				}
				holds(t, d, g, want)
			}
			holds(t, d, api.Book, "")
			s = opened(t, d, 4)
			isAt(t, s, 0, 2, 0, 0, 0)
			does(t, s, all, 2)
		}
	}
}

// TestNoSyncBehindAnAppendThatFailed: what others laid there, and did not sync, is lost in a crash.
func TestNoSyncBehindAnAppendThatFailed(t *testing.T) {
	for _, text := range []string{"a=1", "a=1 b=1"} {
		for _, f := range []int{0, 1, api.Book} {
			d := pavilion.NewDisk()
			s := opened(t, d, 2)
			n := begun(t, s)
			writes(t, s, n, text)
			wants(t, "P7: Append", d.Append(f, "loose"), api.OK)
			wants(t, "P8: Trouble", d.Trouble(f, 1), api.OK)
			if _, e := s.Commit(n); e == api.OK {
				// No turn of this file was asked for.
				continue
			}
			if pending(d, f) {
				t.Errorf("P14: Commit failed without a turn of file %d", f)
			}
			lasts(t, d, f, "")
		}
	}
}

func TestFailuresOfOne(t *testing.T) {
	for k, want := range map[int]string{1: "", 2: "a=1"} {
		for _, crash := range []bool{false, true} {
			d := pavilion.NewDisk()
			s := opened(t, d, 2)
			n := begun(t, s)
			writes(t, s, n, "a=1")
			wants(t, "P8: Trouble", d.Trouble(1, k), api.OK)
			refuses(t, s, n, api.ErrDevice)
			isAt(t, s, 0, 2, 0, 1, 0)
			isOver(t, "a turn that failed", s)
			if crash {
				d.Crash(0, "")
				want = ""
			}
			s = opened(t, d, 2)
			has(t, s, want)
			if want == "" {
				isAt(t, s, 0, 1, 0, 0, 0)
			} else {
				isAt(t, s, 1, 2, 1, 0, 1)
			}
		}
	}
}

// TestFailuresOfTheBook: if its Sync fails, a crash decides.
func TestFailuresOfTheBook(t *testing.T) {
	all, _ := spread(t, 4, 0, 1, 2, 3)
	for _, c := range []struct {
		k, keep int
		there   bool
	}{{1, -1, false}, {1, 0, false}, {1, 99, false}, {2, -1, true}, {2, 0, false}, {2, 8, false}, {2, 9, true}, {2, 99, true}} {
		d, s, _ := failsAt(t, api.Book, c.k)
		isAt(t, s, 0, 2, 0, 1, 0)
		isOver(t, "a turn of the book that failed", s)
		if c.keep >= 0 {
			d.Crash(c.keep, "")
		}
		s = opened(t, d, 4)
		if c.there {
			n := begun(t, s)
			for _, w := range writesOf(all) {
				if l, _ := s.Get(n, w.Key); len(l) != 1 || l[0].Value != "v" {
					t.Errorf("P14: %q is not there, though the decision is", w.Key)
				}
			}
			isAt(t, s, 1, 2, 1, 1, 4)
			continue
		}
		has(t, s, "")
		isAt(t, s, 0, 2, 0, 0, 0)
	}
}

// TestManyFailures: several shards fail at once, which is one answer.
func TestManyFailures(t *testing.T) {
	text, parts := spread(t, 4, 0, 1, 2, 3)
	for set := 1; set < 16; set++ {
		for range 5 {
			d := pavilion.NewDisk()
			s := opened(t, d, 4)
			n := begun(t, s)
			writes(t, s, n, text)
			for f := range api.MaxShards {
				if set>>f&1 == 1 {
					wants(t, "P8: Trouble", d.Trouble(f, 1+f%2), api.OK)
				}
			}
			refuses(t, s, n, api.ErrDevice)
			d.Crash(0, "")
			for f := range api.MaxShards {
				want := record(api.Part, 1, parts[f])
				if set>>f&1 == 1 {
					want = ""
				}
				holds(t, d, f, want)
			}
			holds(t, d, api.Book, "")
		}
	}
}

// TestAPartKeepsItsTime: what was never decided is not decided by a later transaction.
func TestAPartKeepsItsTime(t *testing.T) {
	d := pavilion.NewDisk()
	s := opened(t, d, 2)
	does(t, s, "a=0 b=0", 1)
	n := begun(t, s)
	writes(t, s, n, "a=1 b=1")
	wants(t, "P8: Trouble", d.Trouble(api.Book, 1), api.OK)
	refuses(t, s, n, api.ErrDevice)
	s = opened(t, d, 2)
	isAt(t, s, 1, 3, 1, 0, 2)
	// The snapshot is Last, though a later time is spent.
	commits(t, s, begun(t, s), 1)
	does(t, s, "b=2 c=2", 3)
	d.Crash(0, "")
	has(t, opened(t, d, 2), "a=0 b=2 c=2")
}

// filler tells frames of that many bytes in all, which tell nothing but decisions that nobody needs.
func filler(t *testing.T, size int) string {
	t.Helper()
	whole, done := spell(api.Record{Kind: api.Whole}), record(api.Done, 1, "")
	for n := range len(done) {
		if rest := size - n*len(whole); rest >= 0 && rest%len(done) == 0 {
			return strings.Repeat(whole, n) + strings.Repeat(done, rest/len(done))
		}
	}
	t.Fatalf("no frames have %d bytes", size)
	return ""
}

// TestRoom: up to the brim, and one byte more.
func TestRoom(t *testing.T) {
	one, part, done := record(api.One, 2, "a=1"), record(api.Part, 2, "a=1"), record(api.Done, 2, "")
	for _, c := range []struct {
		text string
		f    int
		size int
		want api.Errno
	}{
		{"a=1", 1, api.MaxFile - len(one), api.OK}, {"a=1", 1, api.MaxFile - len(one) + 1, api.ErrFull}, {"a=1", 1, api.MaxFile, api.ErrFull},
		{"a=1", 0, api.MaxFile, api.OK}, {"a=1", api.Book, api.MaxFile, api.OK}, {"a=1", 2, api.MaxFile, api.OK}, {"a=1", 5, api.MaxFile, api.OK},
		{"a=1 b=1", 1, api.MaxFile - len(part), api.OK}, {"a=1 b=1", 1, api.MaxFile - len(part) + 1, api.ErrFull},
		{"a=1 b=1", 0, api.MaxFile - len(part), api.OK}, {"a=1 b=1", 0, api.MaxFile - len(part) + 1, api.ErrFull},
		{"a=1 b=1", api.Book, api.MaxFile - len(done), api.OK}, {"a=1 b=1", api.Book, api.MaxFile - len(done) + 1, api.ErrFull},
		{"a=1 c=1", 0, api.MaxFile, api.OK}, {"a=1 c=1", api.Book, api.MaxFile, api.OK}, {"b=1 d=1", 1, api.MaxFile, api.OK},
		{"a=1 b=1", 3, api.MaxFile, api.OK},
	} {
		d := pavilion.NewDisk()
		text := filler(t, c.size)
		wants(t, "P7: Append", d.Append(c.f, text), api.OK)
		s := opened(t, d, 2)
		n := begun(t, s)
		writes(t, s, n, c.text)
		before := s.Status()
		if c.want == api.OK {
			commits(t, s, n, before.Next)
			continue
		}
		for range 2 {
			taken := turnsTaken(t, d, func() { refuses(t, s, n, c.want) })
			if taken != [api.Files]int{} {
				t.Errorf("P13: a Commit without room took the turns %v", taken)
			}
			if x := s.Status(); x != before {
				t.Errorf("P13: a Commit without room left %+v, want %+v", x, before)
			}
			sees(t, s, n, c.text)
		}
		holds(t, d, c.f, text)
		wants(t, "P13: Abort", s.Abort(n), api.OK)
	}
}

// TestOrderOfRefusals: a conflict is told ahead of a lack of time, and that ahead of a lack of room.
func TestOrderOfRefusals(t *testing.T) {
	d := pavilion.NewDisk()
	wants(t, "P7: Append", d.Append(1, filler(t, api.MaxFile-16)), api.OK)
	s := openedTo(t, d, 2, 2)
	loses, waits := begun(t, s), begun(t, s)
	writes(t, s, loses, "a=2 b=2")
	writes(t, s, waits, "c=1")
	does(t, s, "a=1", 2)
	refuses(t, s, waits, api.ErrSpent)
	refuses(t, s, loses, api.ErrConflict)
	refuses(t, s, loses, api.ErrNone)
	refuses(t, s, waits, api.ErrSpent)
	s = openedTo(t, d, 2, 3)
	n := begun(t, s)
	writes(t, s, n, "c=1")
	refuses(t, s, n, api.ErrFull)
}

// TestRoomIsWhatTheStoreKnowsOf: it reckons with what it cut off, and with what it added; not with what others did.
func TestRoomIsWhatTheStoreKnowsOf(t *testing.T) {
	one := record(api.One, 2, "a=1")
	d := pavilion.NewDisk()
	wants(t, "P7: Append", d.Append(0, filler(t, api.MaxFile-2*len(one))+strings.Repeat("x", 2*len(one))), api.OK)
	s := opened(t, d, 1)
	does(t, s, "a=1", 2)
	does(t, s, "b=1", 3)
	n := begun(t, s)
	writes(t, s, n, "c=1")
	refuses(t, s, n, api.ErrFull)
	wants(t, "P7: Cut by others", d.Cut(0, 0), api.OK)
	refuses(t, s, n, api.ErrFull)
	s = opened(t, d, 1)
	does(t, s, "c=1", 1)
	wants(t, "P7: Append by others", d.Append(0, filler(t, api.MaxFile-2*len(one))), api.OK)
	does(t, s, "a=1", 2)
	holds(t, d, 0, record(api.One, 1, "c=1")+filler(t, api.MaxFile-2*len(one))+record(api.One, 2, "a=1"))
}

// TestNoRoomThatWasReckonedWith: others have filled the file, which is as a turn that failed.
func TestNoRoomThatWasReckonedWith(t *testing.T) {
	for _, c := range []struct {
		text string
		f    int
		next [3]int // how many turns the files 0 and 1 and the book have
	}{{"a=1", 1, [3]int{0, 1, 0}}, {"a=1 b=1", 1, [3]int{2, 1, 0}}, {"a=1 b=1", 0, [3]int{1, 2, 0}}, {"a=1 b=1", api.Book, [3]int{2, 2, 1}}} {
		d := pavilion.NewDisk()
		s := opened(t, d, 2)
		wants(t, "P7: Append", d.Append(c.f, strings.Repeat("x", api.MaxFile-8)), api.OK)
		n := begun(t, s)
		writes(t, s, n, c.text)
		taken := turnsTaken(t, d, func() { refuses(t, s, n, api.ErrDevice) })
		if [3]int{taken[0], taken[1], taken[api.Book]} != c.next {
			t.Errorf("P14: %q with a full file %d took the turns %v, want %v", c.text, c.f, taken, c.next)
		}
		isAt(t, s, 0, 2, 0, 1, 0)
		isOver(t, "an Append without room", s)
		has(t, opened(t, d, 2), "")
	}
}

// TestFillUp: by its own commits alone a log is filled, opened again or not.
func TestFillUp(t *testing.T) {
	for _, again := range []bool{false, true} {
		d := pavilion.NewDisk()
		s := opened(t, d, 2)
		size := len(record(api.One, 1, "a=0123456789abcdef"))
		full := api.MaxFile / size
		for i := range full {
			if again {
				s = opened(t, d, 2)
			}
			does(t, s, "a=0123456789abcdef", i+1)
		}
		n := begun(t, s)
		writes(t, s, n, "a=0123456789abcdef")
		refuses(t, s, n, api.ErrFull)
		does(t, s, "b=0123456789abcdef", full+1)
		if text := read(t, d, 1); len(text) != full*size {
			t.Errorf("P13: the log has %d bytes, want %d", len(text), full*size)
		}
	}
}

// fillBook commits until the book is full, while the logs have room still, as each has but half of the parts. It tells a text that needs the book, and the next time.
func fillBook(t *testing.T, s *pavilion.Store) (string, int) {
	t.Helper()
	low, _ := spread(t, 4, 0, 1)
	high, _ := spread(t, 4, 2, 3)
	full := api.MaxFile / len(record(api.Done, 1, ""))
	for i := range full {
		does(t, s, []string{low, high}[i%2], i+1)
	}
	return low, full + 1
}

func TestFillUpTheBook(t *testing.T) {
	s := opened(t, pavilion.NewDisk(), 4)
	text, next := fillBook(t, s)
	n := begun(t, s)
	writes(t, s, n, text)
	refuses(t, s, n, api.ErrFull)
	does(t, s, keyOf(t, 0, 4)+"=1", next)
}

// TestTheSameWhateverRunsBeside: the goroutines of a call leave no trace of their order.
func TestTheSameWhateverRunsBeside(t *testing.T) {
	var first [api.Files]string
	for i := range 200 {
		d := pavilion.NewDisk()
		s := opened(t, d, 4)
		for time := 1; time <= 5; time++ {
			text, _ := spread(t, 4, 0, 1, 2, 3)
			does(t, s, text, time)
		}
		texts := filesOf(t, d)
		if i == 0 {
			first = texts
		}
		if texts != first {
			t.Fatal("P2: what the disk holds hangs on what ran beside one another")
		}
	}
}
