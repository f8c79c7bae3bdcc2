package pavilion_test

import (
	"math"
	"slices"
	"strings"
	"testing"

	"pavilion/api"
	"pavilion/pavilion"
)

// behindAll stands behind every key.
const behindAll = "\xff\xff\xff\xff\xff\xff\xff\xff\xff"

func opened(t *testing.T, d *pavilion.Disk, shards int) *pavilion.Store {
	t.Helper()
	return openedTo(t, d, shards, api.MaxTime)
}

func openedTo(t *testing.T, d *pavilion.Disk, shards, last int) *pavilion.Store {
	t.Helper()
	s, e := pavilion.Open(d, api.Config{Shards: shards, Last: last})
	wants(t, "P9: Open", e, api.OK)
	if s == nil {
		t.Fatal("P9: Open is OK, and gives no store")
	}
	return s
}

func begun(t *testing.T, s *pavilion.Store) int {
	t.Helper()
	n, e := s.Begin()
	wants(t, "P10: Begin", e, api.OK)
	return n
}

// writesOf reads a list of writes: "a=x" puts, "a-" deletes.
func writesOf(text string) []api.Write {
	var l []api.Write
	for _, w := range strings.Fields(text) {
		key, value, there := strings.Cut(w, "=")
		if !there {
			key = strings.TrimSuffix(w, "-")
		}
		l = append(l, api.Write{Key: key, Value: value, Dead: !there})
	}
	return l
}

func record(kind, time int, text string) string {
	return spell(api.Record{Kind: kind, Time: time, Writes: writesOf(text)})
}

func imageText(time, generation int, items ...string) string {
	return spell(api.Record{Kind: api.Image, Time: time, Generation: generation}) + strings.Join(items, "") + spell(api.Record{Kind: api.Whole})
}

func writes(t *testing.T, s *pavilion.Store, n int, text string) {
	t.Helper()
	for _, w := range writesOf(text) {
		if w.Dead {
			wants(t, "P12: Delete", s.Delete(n, w.Key), api.OK)
		} else {
			wants(t, "P12: Put", s.Put(n, api.Pair{Key: w.Key, Value: w.Value}), api.OK)
		}
	}
}

func commits(t *testing.T, s *pavilion.Store, n, want int) {
	t.Helper()
	if time, e := s.Commit(n); time != want || e != api.OK {
		t.Fatalf("P13: Commit(%d) = %d, %d, want the time %d", n, time, e, want)
	}
}

func refuses(t *testing.T, s *pavilion.Store, n int, want api.Errno) {
	t.Helper()
	if time, e := s.Commit(n); time != 0 || e != want {
		t.Fatalf("P13: Commit(%d) = %d, %d, want 0, %d", n, time, e, want)
	}
}

// does writes and commits a transaction of its own, which must have the time.
func does(t *testing.T, s *pavilion.Store, text string, time int) {
	t.Helper()
	n := begun(t, s)
	writes(t, s, n, text)
	commits(t, s, n, time)
}

// told spells pairs as writesOf reads them.
func told(l []api.Pair) string {
	var words []string
	for _, p := range l {
		words = append(words, p.Key+"="+p.Value)
	}
	return strings.Join(words, " ")
}

func sees(t *testing.T, s *pavilion.Store, n int, want string) {
	t.Helper()
	l, e := s.Scan(n, "", behindAll, math.MaxInt)
	wants(t, "P11: Scan", e, api.OK)
	if told(l) != want {
		t.Fatalf("P11: transaction %d sees %q, want %q", n, told(l), want)
	}
}

// has looks with a transaction of its own.
func has(t *testing.T, s *pavilion.Store, want string) {
	t.Helper()
	n := begun(t, s)
	sees(t, s, n, want)
	wants(t, "P13: Abort", s.Abort(n), api.OK)
}

func isAt(t *testing.T, s *pavilion.Store, last, next, water, open, versions int) {
	t.Helper()
	want := api.Status{Last: last, Next: next, Water: water, Open: open, Versions: versions}
	if x := s.Status(); x != want {
		t.Fatalf("P17: Status() = %+v, want %+v", x, want)
	}
}

func isOver(t *testing.T, what string, s *pavilion.Store) {
	t.Helper()
	for call, e := range callStore(t, s, 0, 1, "a") {
		wants(t, "ErrOver is asked of "+call+" behind "+what+": it", e, api.ErrOver)
	}
}

// callStore makes each call of a store once that can refuse, and looks that nothing comes beside an error.
func callStore(t *testing.T, s *pavilion.Store, n, most int, text string) map[string]api.Errno {
	t.Helper()
	begin, e1 := s.Begin()
	get, e2 := s.Get(n, "a", text)
	scan, e3 := s.Scan(n, "", text, most)
	commit, e4 := s.Commit(n)
	prune, e5 := s.Prune()
	if e1 != api.OK && begin != 0 || e2 != api.OK && get != nil || e3 != api.OK && scan != nil || e4 != api.OK && commit != 0 || e5 != api.OK && prune != 0 {
		t.Errorf("P1: beside errors there are %d, %v, %v, %d, %d", begin, get, scan, commit, prune)
	}
	return map[string]api.Errno{
		"Begin": e1, "Get": e2, "Scan": e3, "Commit": e4, "Prune": e5, "Put": s.Put(n, api.Pair{Key: text, Value: text}),
		"Delete": s.Delete(n, text), "Abort": s.Abort(n), "Checkpoint": s.Checkpoint(),
	}
}

func TestBeginCountsUp(t *testing.T) {
	d := pavilion.NewDisk()
	s := opened(t, d, 2)
	for want := range api.MaxOpen {
		if n := begun(t, s); n != want {
			t.Fatalf("P10: Begin() = %d, want %d", n, want)
		}
	}
	for range 3 {
		if n, e := s.Begin(); n != 0 || e != api.ErrMany {
			t.Fatalf("P10: Begin() with 8 open = %d, %d, want 0, ErrMany", n, e)
		}
	}
	isAt(t, s, 0, 1, 0, 8, 0)
	wants(t, "P13: Abort", s.Abort(3), api.OK)
	commits(t, s, 7, 0)
	for _, want := range []int{8, 9} {
		if n := begun(t, s); n != want {
			t.Fatalf("P10: Begin() behind two ends = %d, want %d: a number is given once", n, want)
		}
	}
	if _, e := s.Begin(); e != api.ErrMany {
		t.Fatalf("P10: Begin() with 8 open = %d, want ErrMany", e)
	}
	if n := begun(t, opened(t, d, 2)); n != 0 {
		t.Fatalf("P10: the first Begin() of another store = %d, want 0", n)
	}
}

// TestEveryEndMakesRoom: a transaction that is refused for a conflict has ended; one that is refused for other reasons has not.
func TestEveryEndMakesRoom(t *testing.T) {
	s := openedTo(t, pavilion.NewDisk(), 2, 1)
	for range api.MaxOpen {
		writes(t, s, begun(t, s), "a=1")
	}
	commits(t, s, 0, 1)
	refuses(t, s, 1, api.ErrConflict)
	wants(t, "P13: Abort", s.Abort(2), api.OK)
	for range 3 {
		writes(t, s, begun(t, s), "b=1")
	}
	refuses(t, s, 8, api.ErrSpent)
	if _, e := s.Begin(); e != api.ErrMany {
		t.Fatalf("P10: Begin() with 8 open = %d, want ErrMany", e)
	}
}

func TestSnapshots(t *testing.T) {
	s := opened(t, pavilion.NewDisk(), 3)
	first := begun(t, s)
	does(t, s, "a=1 b=1", 1)
	second := begun(t, s)
	does(t, s, "a=2 b- c=2", 2)
	third := begun(t, s)
	does(t, s, "a- c=3", 3)
	does(t, s, "a=", 4)
	sees(t, s, first, "")
	sees(t, s, second, "a=1 b=1")
	sees(t, s, third, "a=2 c=2")
	has(t, s, "a= c=3")
	for n, want := range map[int][]api.Found{
		first:       {{}, {}, {}, {}},
		second:      {{There: true, Value: "1"}, {There: true, Value: "1"}, {}, {}},
		third:       {{There: true, Value: "2"}, {}, {There: true, Value: "2"}, {}},
		begun(t, s): {{There: true}, {}, {There: true, Value: "3"}, {}},
	} {
		if l, e := s.Get(n, "a", "b", "c", "d"); !slices.Equal(l, want) || e != api.OK {
			t.Errorf("P11: transaction %d gets %v, %d, want %v", n, l, e, want)
		}
	}
	isAt(t, s, 4, 5, 0, 4, 8)
}

func TestOwnWritesAreSeen(t *testing.T) {
	s := opened(t, pavilion.NewDisk(), 4)
	does(t, s, "a=1 b=1 c=1", 1)
	n := begun(t, s)
	writes(t, s, n, "b=2 d=2 c-")
	sees(t, s, n, "a=1 b=2 d=2")
	writes(t, s, n, "d- c=3 b=3 e-")
	sees(t, s, n, "a=1 b=3 c=3")
	writes(t, s, n, "b- b=4 c=4 c-")
	sees(t, s, n, "a=1 b=4")
	want := []api.Found{{There: true, Value: "4"}, {}, {}, {There: true, Value: "1"}, {}, {There: true, Value: "4"}}
	if l, e := s.Get(n, "b", "c", "d", "a", "e", "b"); !slices.Equal(l, want) || e != api.OK {
		t.Errorf("P11: Get = %v, %d, want %v", l, e, want)
	}
	has(t, s, "a=1 b=1 c=1")
	commits(t, s, n, 2)
	has(t, s, "a=1 b=4")
	// All that it wrote is a version, and what it wrote to a key ahead of that is none.
	isAt(t, s, 2, 3, 2, 0, 3+4)
}

func TestPutsStandOneAfterTheOther(t *testing.T) {
	s := opened(t, pavilion.NewDisk(), 4)
	n := begun(t, s)
	wants(t, "P12: Put", s.Put(n, api.Pair{Key: "b", Value: "1"}, api.Pair{Key: "a", Value: "1"}, api.Pair{Key: "b", Value: "2"}, api.Pair{Key: "b", Value: "3"}), api.OK)
	sees(t, s, n, "a=1 b=3")
	wants(t, "P12: Delete", s.Delete(n, "b", "z", "b"), api.OK)
	sees(t, s, n, "a=1")
	commits(t, s, n, 1)
	isAt(t, s, 1, 2, 1, 0, 3)
}

func TestGetRefuses(t *testing.T) {
	s := opened(t, pavilion.NewDisk(), 2)
	n := begun(t, s)
	writes(t, s, n, "a=1")
	for _, l := range [][]string{{""}, {"123456789"}, {"a", ""}, {"", "a"}, {"a", "b", behindAll}} {
		if got, e := s.Get(n, l...); got != nil || e != api.ErrKey {
			t.Errorf("P11: Get(%q) = %v, %d, want nil, ErrKey", l, got, e)
		}
		if got, e := s.Get(n+1, l...); got != nil || e != api.ErrNone {
			t.Errorf("P11: Get(%q) of no transaction = %v, %d, want nil, ErrNone", l, got, e)
		}
	}
	if l, e := s.Get(n); len(l) != 0 || e != api.OK {
		t.Errorf("P11: Get of no keys = %v, %d", l, e)
	}
	if l, e := s.Get(n, "12345678", "\x00", "a"); !slices.Equal(l, []api.Found{{}, {}, {There: true, Value: "1"}}) || e != api.OK {
		t.Errorf("P11: Get of keys at the edge = %v, %d", l, e)
	}
}

func TestScanOfAStore(t *testing.T) {
	for shards := 1; shards <= api.MaxShards; shards++ {
		s := opened(t, pavilion.NewDisk(), shards)
		does(t, s, "a=1 a\x00=2 ab=3 b=4 \xff=5 gone=6", 1)
		does(t, s, "gone- 12345678=7 B=8", 2)
		n := begun(t, s)
		does(t, s, "later=1 b-", 3)
		writes(t, s, n, "ab- aa=9 b=10")
		all := "12345678=7 B=8 a=1 a\x00=2 aa=9 b=10 \xff=5"
		for _, c := range []struct {
			from, to string
			most     int
			want     string
		}{
			{"", behindAll, math.MaxInt, all}, {"", behindAll, 7, all}, {"", behindAll, 8, all}, {"", behindAll, 6, strings.TrimSuffix(all, " \xff=5")},
			{"", behindAll, 1, "12345678=7"}, {"", behindAll, 0, ""}, {"a", "b", 9, "a=1 a\x00=2 aa=9"}, {"a", "b\x00", 9, "a=1 a\x00=2 aa=9 b=10"},
			{"a", "b", 2, "a=1 a\x00=2"}, {"a\x00", "b", 9, "a\x00=2 aa=9"}, {"a\x00\x00", "b", 9, "aa=9"}, {"a", "a", 9, ""}, {"a", "a\x00", 9, "a=1"}, {"b", "a", 9, ""},
			{"", "", 9, ""}, {"", "a", 9, "12345678=7 B=8"}, {"12345678", "123456789", 9, "12345678=7"}, {"123456789", "B", 9, ""}, {"123456789", "C", 9, "B=8"},
			{"\xff", behindAll, 9, "\xff=5"}, {"\xff\x00", behindAll, 9, ""}, {strings.Repeat("a", 1<<17), strings.Repeat("b", 1<<17), 9, "b=10"}, {"g", "m", 9, ""},
		} {
			if l, e := s.Scan(n, c.from, c.to, c.most); told(l) != c.want || e != api.OK {
				t.Errorf("P11: with %d shards Scan(%.12q, %.12q, %d) = %q, %d, want %q", shards, c.from, c.to, c.most, told(l), e, c.want)
			}
		}
	}
}

func TestScanOfAStoreRefuses(t *testing.T) {
	s := opened(t, pavilion.NewDisk(), 2)
	n := begun(t, s)
	writes(t, s, n, "a=1")
	for _, most := range []int{-1, -1 << 32, math.MinInt} {
		if l, e := s.Scan(n, "", behindAll, most); l != nil || e != api.ErrArg {
			t.Errorf("P11: Scan of at most %d = %v, %d, want nil, ErrArg", most, l, e)
		}
		if l, e := s.Scan(n+1, "", behindAll, most); l != nil || e != api.ErrNone {
			t.Errorf("P11: Scan of at most %d, of no transaction = %v, %d, want nil, ErrNone", most, l, e)
		}
	}
}

// pairs: each text is a key, and a value behind "=".
func pairs(words ...string) []api.Pair {
	var l []api.Pair
	for _, w := range words {
		key, value, _ := strings.Cut(w, "=")
		l = append(l, api.Pair{Key: key, Value: value})
	}
	return l
}

func TestPutRefuses(t *testing.T) {
	long := strings.Repeat("v", api.MaxValue+1)
	for _, c := range []struct {
		more []api.Pair
		want api.Errno
	}{
		{pairs("", "a=2"), api.ErrKey}, {pairs("a=2", ""), api.ErrKey}, {pairs("a=2", "123456789"), api.ErrKey}, {pairs("=" + long), api.ErrKey}, {pairs("a="+long, "b", "="), api.ErrKey},
		{pairs("1", "2", "3", "4", "5", "6", "7", ""), api.ErrKey}, {pairs("1", "2", "3", "4", "5", "6", "7", "8="+long), api.ErrValue},
		{pairs("a=" + long), api.ErrValue}, {pairs("a=2", "b="+long), api.ErrValue}, {pairs("a="+long, "a=2"), api.ErrValue}, {pairs("a=" + strings.Repeat("v", 1<<17)), api.ErrValue},
		{pairs("1", "2", "3", "4", "5"), api.ErrMany}, {pairs("a=2", "b=2", "1", "2", "3", "4", "5"), api.ErrMany}, {pairs("1", "2", "3", "4", "5", "6", "7", "8"), api.ErrMany},
	} {
		s := opened(t, pavilion.NewDisk(), 2)
		n := begun(t, s)
		writes(t, s, n, "a=1 b-")
		wants(t, "P12: Put", s.Put(n, c.more...), c.want)
		wants(t, "P12: Put of no transaction", s.Put(n+1, c.more...), api.ErrNone)
		sees(t, s, n, "a=1")
		writes(t, s, n, "c=1 d=1 e=1 f=1")
		commits(t, s, n, 1)
		isAt(t, s, 1, 2, 1, 0, 6)
	}
}

func TestDeleteRefuses(t *testing.T) {
	for _, c := range []struct {
		more []string
		want api.Errno
	}{
		{[]string{""}, api.ErrKey}, {[]string{"a", "123456789"}, api.ErrKey}, {[]string{"1", "2", "3", "4", "5", "6", "7", ""}, api.ErrKey},
		{[]string{"1", "2", "3", "4", "5"}, api.ErrMany}, {[]string{"a", "b", "1", "2", "3", "4", "5"}, api.ErrMany},
	} {
		s := opened(t, pavilion.NewDisk(), 2)
		n := begun(t, s)
		writes(t, s, n, "a=1 b-")
		wants(t, "P12: Delete", s.Delete(n, c.more...), c.want)
		wants(t, "P12: Delete of no transaction", s.Delete(n+1, c.more...), api.ErrNone)
		sees(t, s, n, "a=1")
		wants(t, "P12: Delete of four more", s.Delete(n, "1", "2", "3", "4"), api.OK)
		commits(t, s, n, 1)
		isAt(t, s, 1, 2, 1, 0, 6)
	}
}

func TestWritesUpToTheBrim(t *testing.T) {
	s := opened(t, pavilion.NewDisk(), 4)
	n := begun(t, s)
	wants(t, "P12: Put of nothing", s.Put(n), api.OK)
	wants(t, "P12: Delete of nothing", s.Delete(n), api.OK)
	wants(t, "P12: Put of six", s.Put(n, pairs("1=a", "2=a", "12345678=0123456789abcdef", "4", "5=a", "6=a", "1=b")...), api.OK)
	wants(t, "P12: Put of nothing", s.Put(n), api.OK)
	wants(t, "P12: Put of all six again", s.Put(n, pairs("6=c", "5=c", "4=c", "2=c", "1=c", "1=d")...), api.OK)
	wants(t, "P12: Put of a seventh", s.Put(n, pairs("7")...), api.ErrMany)
	wants(t, "P12: Delete of a seventh", s.Delete(n, "1", "7"), api.ErrMany)
	wants(t, "P12: Delete of all six", s.Delete(n, "6", "1", "2", "12345678", "4", "5"), api.OK)
	wants(t, "P12: Put of a seventh, though all are dead", s.Put(n, pairs("7")...), api.ErrMany)
	sees(t, s, n, "")
	wants(t, "P12: Put again", s.Put(n, pairs("12345678=0123456789abcdef", "4")...), api.OK)
	sees(t, s, n, "12345678=0123456789abcdef 4=")
	commits(t, s, n, 1)
	has(t, s, "12345678=0123456789abcdef 4=")
}

// TestLongListsOfFewKeys: it is keys that are counted, not pairs.
func TestLongListsOfFewKeys(t *testing.T) {
	s := opened(t, pavilion.NewDisk(), 4)
	n := begun(t, s)
	long := slices.Repeat(pairs("a=1", "b=1", "a=2"), 30000)
	wants(t, "P12: Put of a long list", s.Put(n, long...), api.OK)
	sees(t, s, n, "a=2 b=1")
	wants(t, "P12: Delete of a long list", s.Delete(n, slices.Repeat([]string{"a", "c"}, 30000)...), api.OK)
	sees(t, s, n, "b=1")
	if l, e := s.Get(n, slices.Repeat([]string{"a", "b"}, 30000)...); len(l) != 60000 || l[59998] != (api.Found{}) || l[59999].Value != "1" || e != api.OK {
		t.Errorf("P11: Get of a long list = %d answers, %d", len(l), e)
	}
	if l, e := s.Get(n, append(slices.Repeat([]string{"a"}, 30000), "")...); l != nil || e != api.ErrKey {
		t.Errorf("P11: Get of a long list with no key at its end = %d answers, %d", len(l), e)
	}
}

func TestAbort(t *testing.T) {
	d := pavilion.NewDisk()
	s := opened(t, d, 2)
	does(t, s, "a=1", 1)
	n, other := begun(t, s), begun(t, s)
	writes(t, s, n, "a=2 b=2")
	writes(t, s, other, "b=3")
	before := filesOf(t, d)
	wants(t, "P13: Abort", s.Abort(n), api.OK)
	if filesOf(t, d) != before {
		t.Errorf("P13: Abort changed what the disk holds")
	}
	for call, e := range callStore(t, s, n, 1, "a") {
		if call != "Begin" && call != "Prune" && call != "Checkpoint" {
			wants(t, "P13: behind Abort, ErrNone is asked of "+call+": it", e, api.ErrNone)
		}
	}
	sees(t, s, other, "a=1 b=3")
	has(t, s, "a=1")
	for _, n := range []int{-1, n, 99, math.MinInt, math.MaxInt, 1 << 32, other + 1<<32} {
		wants(t, "P13: Abort of no transaction", s.Abort(n), api.ErrNone)
	}
	sees(t, s, other, "a=1 b=3")
}

func TestCommitOfNothing(t *testing.T) {
	d := pavilion.NewDisk()
	s := openedTo(t, d, 2, 2)
	first := begun(t, s)
	does(t, s, "a=1", 1)
	second := begun(t, s)
	sees(t, s, second, "a=1")
	does(t, s, "a=2", 2)
	third := begun(t, s)
	wants(t, "P12: Put of nothing", s.Put(third), api.OK)
	wants(t, "P12: Put of no key", s.Put(third, pairs("")...), api.ErrKey)
	// No time is left, which does not matter here.
	for _, f := range []int{0, 1, api.Book} {
		wants(t, "P8: Trouble", d.Trouble(f, 1), api.OK)
	}
	commits(t, s, second, 1)
	commits(t, s, first, 0)
	commits(t, s, third, 2)
	refuses(t, s, second, api.ErrNone)
	isAt(t, s, 2, 3, 2, 0, 2)
	for _, f := range []int{0, 1, api.Book} {
		wants(t, "P13: a turn that nobody took", d.Sync(f), api.ErrDevice)
	}
}

func TestConflicts(t *testing.T) {
	for _, c := range []struct {
		first, second string
		want          api.Errno
	}{
		{"a=1", "a=2", api.ErrConflict}, {"a=1", "a-", api.ErrConflict}, {"a-", "a=2", api.ErrConflict}, {"none-", "none=1", api.ErrConflict}, {"a=0", "a=0", api.ErrConflict},
		{"a=1 b=1 c=1", "c=2 d=2", api.ErrConflict}, {"c=1", "a=2 b=2 c=2 d=2", api.ErrConflict}, {"d=1 z=1", "y=1 z=1", api.ErrConflict},
		{"a=1", "b=2", api.OK}, {"a=1 b=1", "c=2 d=2", api.OK}, {"a=1", "aa=2", api.OK},
	} {
		for shards := 1; shards <= api.MaxShards; shards++ {
			s := opened(t, pavilion.NewDisk(), shards)
			does(t, s, "a=0 b=0 c=0 d=0", 1)
			one, two := begun(t, s), begun(t, s)
			writes(t, s, two, c.second)
			writes(t, s, one, c.first)
			commits(t, s, one, 2)
			before := s.Status()
			time, e := s.Commit(two)
			if e != c.want || e == api.OK && time != 3 || e != api.OK && time != 0 {
				t.Errorf("P13: %q behind %q = %d, %d, want %d", c.second, c.first, time, e, c.want)
			}
			refuses(t, s, two, api.ErrNone)
			wants(t, "P13: Abort of what has ended", s.Abort(two), api.ErrNone)
			if e == api.ErrConflict {
				isAt(t, s, 2, 3, 2, 0, before.Versions)
			}
		}
	}
}

// TestNoConflict: what was there when it began, what was read, aborted, or written without an end.
func TestNoConflict(t *testing.T) {
	s := opened(t, pavilion.NewDisk(), 2)
	does(t, s, "a=1 b=1", 1)
	one, two, three := begun(t, s), begun(t, s), begun(t, s)
	writes(t, s, one, "a=2")
	writes(t, s, two, "a=3")
	writes(t, s, three, "b=3")
	sees(t, s, three, "a=1 b=3")
	wants(t, "P13: Abort", s.Abort(one), api.OK)
	commits(t, s, two, 2)
	// It has read a key that is another one now.
	commits(t, s, three, 3)
	has(t, s, "a=3 b=3")
	four := begun(t, s)
	writes(t, s, four, "a=4 b=4")
	commits(t, s, four, 4)
}

func TestSpent(t *testing.T) {
	d := pavilion.NewDisk()
	s := openedTo(t, d, 2, 2)
	stays, loses := begun(t, s), begun(t, s)
	does(t, s, "a=1", 1)
	does(t, s, "b=1", 2)
	writes(t, s, stays, "c=1 d=1")
	writes(t, s, loses, "a=2")
	for range 3 {
		refuses(t, s, stays, api.ErrSpent)
		sees(t, s, stays, "c=1 d=1")
		isAt(t, s, 2, 3, 0, 2, 2)
	}
	refuses(t, s, loses, api.ErrConflict)
	refuses(t, s, loses, api.ErrNone)
	holds(t, d, api.Book, "")
	has(t, s, "a=1 b=1")
	s = openedTo(t, d, 2, 1)
	writes(t, s, begun(t, s), "c=1")
	refuses(t, s, 0, api.ErrSpent)
	isAt(t, s, 2, 3, 2, 1, 2)
	s = openedTo(t, d, 2, 3)
	does(t, s, "c=1", 3)
}

// TestSpentByOthers: it is Next that counts, which may be far above Last.
func TestSpentByOthers(t *testing.T) {
	for last, want := range map[int]api.Errno{1: api.ErrSpent, 4: api.ErrSpent, 5: api.ErrSpent, 6: api.OK} {
		d := pavilion.NewDisk()
		wants(t, "P7: Append", d.Append(1, record(api.One, 1, "a=1")+record(api.Part, 5, "a=5")), api.OK)
		s := openedTo(t, d, 2, last)
		n := begun(t, s)
		writes(t, s, n, "a=2")
		if _, e := s.Commit(n); e != want {
			t.Errorf("P13: Commit with Next 6 and times up to %d = %d, want %d", last, e, want)
		}
	}
}

func TestTheLastTime(t *testing.T) {
	d := pavilion.NewDisk()
	wants(t, "P7: Append", d.Append(api.Book, record(api.Done, api.MaxTime-2, "")), api.OK)
	s := opened(t, d, 2)
	isAt(t, s, 0, api.MaxTime-1, 0, 0, 0)
	does(t, s, "a=1", api.MaxTime-1)
	does(t, s, "a=2 b=2", api.MaxTime)
	holds(t, d, 0, record(api.Part, api.MaxTime, "b=2"))
	holds(t, d, 1, record(api.One, api.MaxTime-1, "a=1")+record(api.Part, api.MaxTime, "a=2"))
	writes(t, s, begun(t, s), "a=3")
	refuses(t, s, 2, api.ErrSpent)
	isAt(t, s, api.MaxTime, api.MaxTime+1, api.MaxTime, 1, 3)
	s = opened(t, d, 2)
	isAt(t, s, api.MaxTime, api.MaxTime+1, api.MaxTime, 0, 3)
	has(t, s, "a=2 b=2")
}

func TestWater(t *testing.T) {
	s := opened(t, pavilion.NewDisk(), 2)
	isAt(t, s, 0, 1, 0, 0, 0)
	does(t, s, "a=1", 1)
	isAt(t, s, 1, 2, 1, 0, 1)
	low := begun(t, s)
	does(t, s, "a=2 b=2", 2)
	middle := begun(t, s)
	does(t, s, "a-", 3)
	high := begun(t, s)
	isAt(t, s, 3, 4, 1, 3, 4)
	writes(t, s, middle, "c=1")
	isAt(t, s, 3, 4, 1, 3, 4)
	wants(t, "P13: Abort", s.Abort(low), api.OK)
	isAt(t, s, 3, 4, 2, 2, 4)
	commits(t, s, middle, 4)
	isAt(t, s, 4, 5, 3, 1, 5)
	commits(t, s, high, 3)
	isAt(t, s, 4, 5, 4, 0, 5)
}
