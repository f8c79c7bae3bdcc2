package pavilion_test

import (
	"math"
	"reflect"
	"slices"
	"strings"
	"sync"
	"testing"
	"unsafe"

	"pavilion/api"
	"pavilion/pavilion"
)

// someNumbers: the ends of the kinds of numbers, and what lies near the bounds.
func someNumbers() []int {
	return []int{math.MinInt, math.MinInt32, -65536, -1, 0, 1, 2, 3, 4, 5, 6, 7, 8, 255, 256, 65535, 65536, math.MaxInt32, 1 << 32, math.MaxInt}
}

// someTexts: texts of any bytes and of many lengths.
func someTexts() []string {
	l := []string{"", "\x00", "p", "a\x00b", "\xff\xfe", "Zoë", "p\x01\xff", "p\x06\x00\xfd\xea\x16\xc4"}
	for _, size := range []int{7, 8, 9, 16, 17, 255, 256, 2001, 1 << 17} {
		l = append(l, strings.Repeat("p", size), strings.Repeat("\xff", size))
	}
	return l
}

// someLists: lists of writes, nil and long ones too.
func someLists() [][]api.Write {
	l := [][]api.Write{nil, {}, make([]api.Write, 7), make([]api.Write, 1<<17)}
	for _, s := range someTexts() {
		l = append(l, []api.Write{{Key: s, Value: s}}, []api.Write{{Key: "a", Value: s, Dead: true}, {Key: s}})
	}
	return l
}

// TestCallsEnd: a panic, or a call without an end, fails here.
func TestCallsEnd(t *testing.T) {
	for _, s := range someTexts() {
		for _, n := range someNumbers() {
			if shard, e := pavilion.Shard(s, n); e != api.OK && shard != 0 || shard < 0 || shard >= api.MaxShards {
				t.Errorf("P1: Shard(%.9q, %d) = %d, %d", s, n, shard, e)
			}
		}
		if v := pavilion.Sum(s); v < 0 || v > math.MaxUint32 {
			t.Errorf("P4: Sum(%.9q) = %d", s, v)
		}
		if l, n := pavilion.Scan(s); n < 0 || n > len(s) || (n == 0) != (len(l) == 0) {
			t.Errorf("P1: Scan(%.9q) = %d records, %d", s, len(l), n)
		}
	}
	for _, n := range someNumbers() {
		for _, w := range someLists() {
			for _, r := range []api.Record{{Kind: n, Time: 1, Writes: w}, {Kind: api.One, Time: n, Writes: w}, {Kind: api.Image, Time: n, Generation: n, Writes: w}} {
				if s, e := pavilion.Encode(r); (e != api.OK) != (s == "") {
					t.Errorf("P1: Encode(%d, %d, %d, ..) = %x, %d", r.Kind, r.Time, r.Generation, s, e)
				}
			}
		}
	}
}

// TestTheFirstErrorIsTold: of several, the one that is named first.
func TestTheFirstErrorIsTold(t *testing.T) {
	for _, n := range []int{math.MinInt, 0, 5} {
		for _, key := range []string{"", "123456789"} {
			if v, e := pavilion.Shard(key, n); v != 0 || e != api.ErrArg {
				t.Errorf("P1: Shard(%q, %d) = %d, %d, want 0, ErrArg", key, n, v, e)
			}
		}
	}
}

// callDisk makes each call of a disk that answers once.
func callDisk(t *testing.T, d *pavilion.Disk, f, n int, s string) []api.Errno {
	t.Helper()
	text, e := d.Read(f)
	if e != api.OK && text != "" {
		t.Errorf("P1: Read(%d) = %.9q, %d", f, text, e)
	}
	return []api.Errno{d.Append(f, s), d.Sync(f), d.Cut(f, n), e, d.Trouble(f, n)}
}

func TestDiskCallsEnd(t *testing.T) {
	d := pavilion.NewDisk()
	for _, f := range someNumbers() {
		for _, n := range someNumbers() {
			for _, s := range someTexts() {
				callDisk(t, d, f, n, s)
				d.Crash(n, s)
				if n < 9 {
					callDisk(t, d, f, -n, s)
				}
			}
		}
	}
}

func TestAllCallsWithNoDisk(t *testing.T) {
	for _, f := range someNumbers() {
		for _, n := range someNumbers() {
			for i, e := range callDisk(t, nil, f, n, "text") {
				if e != api.ErrFile {
					t.Errorf("P1: call %d of no disk, with %d and %d, is %d, want ErrFile: it has no files", i, f, n, e)
				}
			}
			var none *pavilion.Disk
			none.Crash(n, "junk")
		}
	}
	for _, n := range someNumbers() {
		if s, e := pavilion.Open(nil, api.Config{Shards: n, Last: n}); s != nil || e != api.ErrArg {
			t.Errorf("P9: Open without a disk, %d, = %v, %d, want nil, ErrArg", n, s, e)
		}
	}
}

func TestOpenEnds(t *testing.T) {
	for _, shards := range someNumbers() {
		for _, last := range someNumbers() {
			s, e := pavilion.Open(pavilion.NewDisk(), api.Config{Shards: shards, Last: last})
			if (s == nil) != (e != api.OK) {
				t.Errorf("P1: Open to %d, %d = %v, %d", shards, last, s, e)
			}
		}
	}
	for _, text := range someTexts() {
		d := pavilion.NewDisk()
		for f := range api.Files {
			d.Append(f, text)
		}
		opened(t, d, 4)
	}
}

func TestStoreCallsEnd(t *testing.T) {
	s := opened(t, pavilion.NewDisk(), 4)
	for _, n := range someNumbers() {
		for _, most := range someNumbers() {
			for _, text := range someTexts() {
				for call, e := range callStore(t, s, n, most, text) {
					if e == api.ErrOver || e == api.ErrDevice {
						t.Fatalf("P1: %s of %d, %d, %.9q = %d", call, n, most, text, e)
					}
				}
				s.Scan(n, text, "", most)
			}
		}
		s.Get(n, nil...)
		s.Put(n, nil...)
		s.Delete(n, nil...)
		s.Get(n, someTexts()...)
		s.Delete(n, someTexts()...)
	}
}

// TestStoreCallsWithNoStore: nothing is promised here but that it is no panic.
func TestStoreCallsWithNoStore(t *testing.T) {
	for _, s := range []*pavilion.Store{nil, {}} {
		isOver(t, "no Open", s)
		isAt(t, s, 0, 0, 0, 0, 0)
	}
}

func TestLongScan(t *testing.T) {
	const many = 20000
	one := spell(api.Record{Kind: api.One, Time: 1, Writes: longest()})
	s := strings.Repeat(one, many)
	if l, n := pavilion.Scan(s + "p"); len(l) != many || n != len(s) {
		t.Errorf("P1: Scan of a long text = %d records, %d", len(l), n)
	}
}

func TestNothingHandedInIsChanged(t *testing.T) {
	for _, dead := range []bool{false, true} {
		room := []api.Write{{Key: "a", Value: "x"}, {Key: "b", Value: "y"}, {Key: "spare"}, {Key: "room", Dead: true}}
		if dead {
			room[1] = api.Write{Key: "b", Dead: true}
		}
		before := append([]api.Write(nil), room...)
		for kind := range 8 {
			for size := range len(room) {
				pavilion.Encode(api.Record{Kind: kind, Time: 1, Writes: room[:size]})
			}
		}
		if !reflect.DeepEqual(room, before) {
			t.Errorf("P2: Encode wrote into what stands behind its list: %v", room)
		}
	}
	wrong := []api.Write{{Key: "b"}, {Key: "a"}, {Key: "a"}}
	pavilion.Encode(api.Record{Kind: api.One, Time: 1, Writes: wrong})
	if wrong[0].Key != "b" || wrong[1].Key != "a" {
		t.Errorf("P2: Encode sorted what it was handed: %v", wrong)
	}
}

func TestNothingHandedInIsKept(t *testing.T) {
	w := []api.Write{{Key: "a", Value: "x"}}
	r := api.Record{Kind: api.One, Time: 1, Writes: w}
	first, _ := pavilion.Encode(r)
	want := strings.Clone(first)
	w[0] = api.Write{Key: "b", Dead: true}
	if first != want {
		t.Errorf("P2: the frame hangs on the list behind the call")
	}
	if second, _ := pavilion.Encode(r); second != spell(r) {
		t.Errorf("P2: the next frame is the last one's: %x", second)
	}
}

// scribble writes into all of a list of records, its spare room and its lists.
func scribble(l []api.Record) {
	l = l[:cap(l)]
	for i := range l {
		w := l[i].Writes[:cap(l[i].Writes)]
		for k := range w {
			w[k] = api.Write{Key: "scribble", Dead: true, Value: "scribble"}
		}
		l[i] = api.Record{Kind: -1, Time: -1, Generation: -1}
	}
}

func TestListsThatComeOutAreTheCallers(t *testing.T) {
	all := edgeText()
	first, _ := pavilion.Scan(all)
	second, _ := pavilion.Scan(all)
	scribble(first)
	if !sameRecords(second, edgeRecords()) {
		t.Errorf("P2: two answers share memory")
	}
	if third, n := pavilion.Scan(all); n != len(all) || !sameRecords(third, edgeRecords()) {
		t.Errorf("P2: an answer hangs on what was done to an earlier one")
	}
}

// TestListsOfOneAnswerShareNothing: appending to each list leaves all others as they were.
func TestListsOfOneAnswerShareNothing(t *testing.T) {
	all := edgeText()
	l, _ := pavilion.Scan(all)
	for i := range l {
		w := l[i].Writes
		for range 8 {
			w = append(w, api.Write{Key: "behind"})
		}
		spare := l[i].Writes[len(l[i].Writes):cap(l[i].Writes)]
		for k := range spare {
			spare[k] = api.Write{Key: "spare"}
		}
	}
	if !sameRecords(l, edgeRecords()) {
		t.Errorf("P2: the lists of one answer share memory")
	}
}

// TestTextsThatAreHandedInAreNotKept: the bytes behind a text change under the disk.
func TestTextsThatAreHandedInAreNotKept(t *testing.T) {
	d := pavilion.NewDisk()
	behind := []byte("abcdef")
	s := unsafe.String(&behind[0], len(behind))
	wants(t, "P7: Append", d.Append(0, s), api.OK)
	wants(t, "P7: Append", d.Append(1, "loose"), api.OK)
	d.Crash(0, s)
	wants(t, "P7: Append", d.Append(0, s), api.OK)
	copy(behind, "XXXXXX")
	holds(t, d, 0, "abcdefabcdef")
	holds(t, d, 1, "abcde")
}

// TestTextsThatAreWrittenAreNotKept: the bytes behind keys and values change under the store.
func TestTextsThatAreWrittenAreNotKept(t *testing.T) {
	d := pavilion.NewDisk()
	s := opened(t, d, 1)
	behind := []byte("keyvaluedead")
	text := unsafe.String(&behind[0], len(behind))
	does(t, s, "dead=1", 1)
	n := begun(t, s)
	wants(t, "P12: Put", s.Put(n, api.Pair{Key: text[:3], Value: text[3:8]}), api.OK)
	wants(t, "P12: Delete", s.Delete(n, text[8:]), api.OK)
	s.Get(n, text[:3])
	s.Scan(n, text[:3], text[3:], 9)
	copy(behind, "XXXXXXXXXXXX")
	sees(t, s, n, "key=value")
	commits(t, s, n, 2)
	has(t, s, "key=value")
	holds(t, d, 0, record(api.One, 1, "dead=1")+record(api.One, 2, "dead- key=value"))
	// A key that is written again, by another text.
	n = begun(t, s)
	writes(t, s, n, "key=1")
	copy(behind, "keyvalue")
	wants(t, "P12: Put", s.Put(n, api.Pair{Key: text[:3], Value: text[3:8]}), api.OK)
	copy(behind, "XXXXXXXX")
	commits(t, s, n, 3)
	has(t, s, "key=value")
}

// TestListsThatAreWrittenStay: neither they nor their spare room are written into, and what is done to them later is not seen.
func TestListsThatAreWrittenStay(t *testing.T) {
	s := opened(t, pavilion.NewDisk(), 2)
	n := begun(t, s)
	room := pairs("b=1", "a=1", "b=2", "spare=1", "room=1")
	names := []string{"c", "b", "c", "spare", "room"}
	keptRoom, keptNames := slices.Clone(room), slices.Clone(names)
	wants(t, "P12: Put", s.Put(n, room[:3]...), api.OK)
	wants(t, "P12: Delete", s.Delete(n, names[:2]...), api.OK)
	s.Get(n, names[:3]...)
	if !slices.Equal(room, keptRoom) || !slices.Equal(names, keptNames) {
		t.Errorf("P2: lists that were handed in have become %v, %v", room, names)
	}
	for i := range room {
		room[i] = api.Pair{Key: "z", Value: "no"}
		names[i] = "a"
	}
	sees(t, s, n, "a=1")
	commits(t, s, n, 1)
	isAt(t, s, 1, 2, 1, 0, 3)
}

// TestListsOfAStoreAreTheCallers: whatever is done to an answer, its spare room too, the next one is right.
func TestListsOfAStoreAreTheCallers(t *testing.T) {
	s := opened(t, pavilion.NewDisk(), 2)
	does(t, s, "a=1 b=1 c=1", 1)
	n := begun(t, s)
	writes(t, s, n, "b=2 d=2")
	kept, _ := s.Scan(n, "", behindAll, 9)
	for most := range 6 {
		l, _ := s.Scan(n, "", behindAll, most)
		got, _ := s.Get(n, []string{"a", "b", "c", "d", "e"}[:most]...)
		for i := range l[:cap(l)] {
			l[:cap(l)][i] = api.Pair{Key: "z", Value: "no"}
		}
		for i := range got[:cap(got)] {
			got[:cap(got)][i] = api.Found{There: true, Value: "no"}
		}
		sees(t, s, n, "a=1 b=2 c=1 d=2")
		if l, _ := s.Get(n, "a", "b", "e"); !slices.Equal(l, []api.Found{{There: true, Value: "1"}, {There: true, Value: "2"}, {}}) {
			t.Errorf("P2: Get hangs on what was done to an earlier answer: %v", l)
		}
	}
	if told(kept) != "a=1 b=2 c=1 d=2" {
		t.Errorf("P2: two answers share memory: %v", kept)
	}
	commits(t, s, n, 2)
	has(t, s, "a=1 b=2 c=1 d=2")
}

// TestAnswersStayBehindForgetting: lists that came out are as they were, and what is written into them comes into no image.
func TestAnswersStayBehindForgetting(t *testing.T) {
	d := pavilion.NewDisk()
	s := opened(t, d, 2)
	does(t, s, "a=1 b=1 c=1", 1)
	n := begun(t, s)
	l, _ := s.Scan(n, "", behindAll, 9)
	found, _ := s.Get(n, "a", "b", "c")
	spoilt, _ := s.Scan(n, "", behindAll, 9)
	wants(t, "P13: Abort", s.Abort(n), api.OK)
	does(t, s, "a=2 b-", 2)
	for i := range spoilt {
		spoilt[i] = api.Pair{Key: "z", Value: "no"}
	}
	prunes(t, s, 3)
	checkpoints(t, s)
	does(t, s, "a=3 b=3", 3)
	if told(l) != "a=1 b=1 c=1" || !slices.Equal(found, []api.Found{{There: true, Value: "1"}, {There: true, Value: "1"}, {There: true, Value: "1"}}) {
		t.Errorf("P2: answers have become %v, %v behind Prune", l, found)
	}
	holds(t, d, 5, imageText(2, 1, record(api.Item, 2, "a=2"), record(api.Item, 1, "c=1")))
}

// TestTextsThatAreWrittenComeIntoImages: as they were when they were handed in.
func TestTextsThatAreWrittenComeIntoImages(t *testing.T) {
	d := pavilion.NewDisk()
	s := opened(t, d, 1)
	behind := []byte("keyvalue")
	text := unsafe.String(&behind[0], len(behind))
	n := begun(t, s)
	wants(t, "P12: Put", s.Put(n, api.Pair{Key: text[:3], Value: text[3:]}), api.OK)
	commits(t, s, n, 1)
	copy(behind, "XXXXXXXX")
	checkpoints(t, s)
	holds(t, d, 5, imageText(1, 1, record(api.Item, 1, "key=value")))
	prunes(t, s, 0)
	has(t, s, "key=value")
}

// TestImagesAreAlwaysTheSame: the keys rise, however the store holds them.
func TestImagesAreAlwaysTheSame(t *testing.T) {
	var items []string
	for b := byte('a'); b <= 'x'; b++ {
		items = append(items, record(api.Item, 1+int(b-'a')/api.MaxWrites, string(b)+"=1"))
	}
	for range 50 {
		d := pavilion.NewDisk()
		s := opened(t, d, 4)
		for time, text := range []string{"f=1 a=1 b=1 e=1 c=1 d=1", "l=1 k=1 j=1 i=1 h=1 g=1", "m=1 n=1 o=1 p=1 q=1 r=1", "x=1 t=1 v=1 u=1 w=1 s=1"} {
			does(t, s, text, time+1)
		}
		checkpoints(t, s)
		holdsAll(t, "P2: images", d, [api.Files]string{5: imageText(4, 1, items...)})
	}
}

// TestStoresHaveNothingToDoWithOneAnother: but by their disk.
func TestStoresHaveNothingToDoWithOneAnother(t *testing.T) {
	one, two := pavilion.NewDisk(), pavilion.NewDisk()
	s, x := opened(t, one, 2), opened(t, two, 2)
	does(t, s, "a=1 b=1", 1)
	has(t, x, "")
	writes(t, x, begun(t, x), "a=2")
	isAt(t, s, 1, 2, 1, 0, 2)
	wants(t, "P8: Trouble", one.Trouble(1, 1), api.OK)
	commits(t, x, 1, 1)
	checkpoints(t, x)
	does(t, x, "a=3", 2)
	prunes(t, x, 1)
	holdsAll(t, "P2: an image of another disk", two, [api.Files]string{1: record(api.One, 2, "a=3"), 5: imageText(1, 1, record(api.Item, 1, "a=2"))})
	isAt(t, s, 1, 2, 1, 0, 2)
	wants(t, "P15: Checkpoint with a turn that fails", s.Checkpoint(), api.ErrDevice)
	isOver(t, "a turn that failed", s)
	one.Crash(0, "")
	has(t, x, "a=3")
}

// TestWhatWasReadStays: an answer does not hang on what is done to the disk behind it.
func TestWhatWasReadStays(t *testing.T) {
	d := diskWith(t, 0, "abc", "def")
	first := read(t, d, 0)
	wants(t, "P7: Cut", d.Cut(0, 1), api.OK)
	wants(t, "P7: Append", d.Append(0, "XY"), api.OK)
	second := read(t, d, 0)
	d.Crash(0, "JUNK")
	third := read(t, d, 0)
	wants(t, "P7: Cut", d.Cut(0, 0), api.OK)
	wants(t, "P7: Append", d.Append(0, "ZZZZZZ"), api.OK)
	if first != "abcdef" || second != "aXY" || third != "aJU" {
		t.Errorf("P2: what was read has become %q, %q, %q", first, second, third)
	}
}

func TestDisksHaveNothingToDoWithOneAnother(t *testing.T) {
	one, two := diskWith(t, 0, "ab", "cd"), diskWith(t, 0, "AB", "CD")
	wants(t, "P8: Trouble", one.Trouble(0, 1), api.OK)
	wants(t, "P7: Sync of the other disk", two.Sync(0), api.OK)
	wants(t, "P7: Append to the other disk", two.Append(0, "EF"), api.OK)
	two.Crash(0, "J")
	wants(t, "P8: Sync", one.Sync(0), api.ErrDevice)
	holds(t, one, 0, "abcd")
	holds(t, two, 0, "ABCDJ")
	wants(t, "P7: Cut", one.Cut(0, 0), api.OK)
	holds(t, two, 0, "ABCDJ")
	holds(t, pavilion.NewDisk(), 0, "")
}

// TestFilesBesideOneAnother: each file by a goroutine of its own; the race detector sees more here.
func TestFilesBesideOneAnother(t *testing.T) {
	d := pavilion.NewDisk()
	for f := range api.Files {
		wants(t, "P8: Trouble", d.Trouble(f, 2*f+1), api.OK)
	}
	var outcome [api.Files]api.Errno
	var wait sync.WaitGroup
	for f := range api.Files {
		wait.Go(func() {
			for range 10 {
				outcome[f] = max(outcome[f], d.Append(f, "ab"), d.Sync(f))
			}
		})
	}
	wait.Wait()
	d.Crash(0, "")
	for f := range api.Files {
		wants(t, "P2: the outcome of a file beside others", outcome[f], api.ErrDevice)
		// The odd turns are Appends, so one of them has failed in each file.
		holds(t, d, f, strings.Repeat("ab", 9))
	}
}

func TestAnswersAreAlwaysTheSame(t *testing.T) {
	all := edgeText()
	var wait sync.WaitGroup
	for range 8 {
		wait.Add(1)
		go func() {
			defer wait.Done()
			for range 20 {
				l, n := pavilion.Scan(all)
				if n != len(all) || !sameRecords(l, edgeRecords()) {
					t.Error("P2: Scan beside others tells something else")
				}
				for _, r := range l {
					if s, e := pavilion.Encode(r); s != spell(r) || e != api.OK {
						t.Error("P2: Encode beside others tells something else")
					}
				}
				if v, e := pavilion.Shard("ab", 4); v != 1 || e != api.OK || pavilion.Sum("123456789") != 0xcbf43926 {
					t.Error("P2: Shard or Sum beside others tells something else")
				}
			}
		}()
	}
	wait.Wait()
}
