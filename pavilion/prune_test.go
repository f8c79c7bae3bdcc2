package pavilion_test

import (
	"testing"

	"pavilion/api"
	"pavilion/pavilion"
)

func prunes(t *testing.T, s *pavilion.Store, want int) {
	t.Helper()
	before := s.Status()
	if n, e := s.Prune(); n != want || e != api.OK {
		t.Fatalf("P16: Prune() = %d, %d, want %d", n, e, want)
	}
	before.Versions -= want
	if x := s.Status(); x != before {
		t.Fatalf("P16: behind Prune Status() = %+v, want %+v", x, before)
	}
}

// TestExampleOfPrune: as the document tells it.
func TestExampleOfPrune(t *testing.T) {
	s := opened(t, pavilion.NewDisk(), 2)
	does(t, s, "a=1", 1)
	does(t, s, "a=2", 2)
	n := begun(t, s)
	does(t, s, "a=3", 3)
	prunes(t, s, 1)
	sees(t, s, n, "a=2")
	wants(t, "P13: Abort", s.Abort(n), api.OK)
	prunes(t, s, 1)
	isAt(t, s, 3, 4, 3, 0, 1)
	has(t, s, "a=3")
}

// TestWhatPruneForgets: one write at each time; the water is that of a transaction which began behind so many of them.
func TestWhatPruneForgets(t *testing.T) {
	for _, c := range []struct {
		list  []string
		water int
		want  int
		seen  string // by the transaction
		last  string // by one that begins behind all
	}{
		{nil, 0, 0, "", ""},
		{[]string{"a=1"}, 0, 0, "", "a=1"}, {[]string{"a=1"}, 1, 0, "a=1", "a=1"},
		{[]string{"a-"}, 0, 0, "", ""}, {[]string{"a-"}, 1, 1, "", ""},
		{[]string{"a=1", "a=2", "a=3"}, 0, 0, "", "a=3"}, {[]string{"a=1", "a=2", "a=3"}, 1, 0, "a=1", "a=3"},
		{[]string{"a=1", "a=2", "a=3"}, 2, 1, "a=2", "a=3"}, {[]string{"a=1", "a=2", "a=3"}, 3, 2, "a=3", "a=3"},
		{[]string{"a=1", "a-", "a=3"}, 1, 0, "a=1", "a=3"}, {[]string{"a=1", "a-", "a=3"}, 2, 2, "", "a=3"}, {[]string{"a=1", "a-", "a=3"}, 3, 2, "a=3", "a=3"},
		{[]string{"a=1", "a=2", "a-"}, 2, 1, "a=2", ""}, {[]string{"a=1", "a=2", "a-"}, 3, 3, "", ""}, {[]string{"a=1", "a-", "b=1"}, 3, 2, "b=1", "b=1"},
		{[]string{"a-", "a-", "a-"}, 0, 0, "", ""}, {[]string{"a-", "a-", "a-"}, 2, 2, "", ""}, {[]string{"a-", "a-", "a-"}, 3, 3, "", ""},
		{[]string{"a=", "a=", "b="}, 2, 1, "a=", "a= b="}, {[]string{"a=1", "b=1", "b=2", "a=2"}, 3, 1, "a=1 b=2", "a=2 b=2"},
		{[]string{"a=1 b=1", "a- c=1", "b=2 c-", "a=2"}, 2, 2, "b=1 c=1", "a=2 b=2"}, {[]string{"a=1 b=1", "a- c=1", "b=2 c-", "a=2"}, 3, 5, "b=2", "a=2 b=2"},
		{[]string{"a=1 b=1", "a- c=1", "b=2 c-", "a=2"}, 4, 5, "a=2 b=2", "a=2 b=2"},
	} {
		for shards := 1; shards <= api.MaxShards; shards++ {
			s := opened(t, pavilion.NewDisk(), shards)
			n := -1
			for i := range len(c.list) + 1 {
				if i == c.water {
					n = begun(t, s)
				}
				if i < len(c.list) {
					does(t, s, c.list[i], i+1)
				}
			}
			prunes(t, s, c.want)
			sees(t, s, n, c.seen)
			has(t, s, c.last)
			prunes(t, s, 0)
		}
	}
}

// TestPruneWithoutTransactions: then only what is there has a version.
func TestPruneWithoutTransactions(t *testing.T) {
	s := opened(t, pavilion.NewDisk(), 4)
	prunes(t, s, 0)
	does(t, s, "a=1 b=1 c=1 d=1", 1)
	does(t, s, "b=2 c- none-", 2)
	does(t, s, "b=3 c=3 d-", 3)
	prunes(t, s, 10-3)
	has(t, s, "a=1 b=3 c=3")
	does(t, s, "d=4 a-", 4)
	has(t, s, "b=3 c=3 d=4")
	prunes(t, s, 2)
	prunes(t, s, 0)
	isAt(t, s, 4, 5, 4, 0, 3)
	has(t, s, "b=3 c=3 d=4")
}

// TestPruneGoesByTheLeastSnapshot: whatever ends first, and however it ends.
func TestPruneGoesByTheLeastSnapshot(t *testing.T) {
	s := opened(t, pavilion.NewDisk(), 2)
	var open []int
	for time := 1; time <= 5; time++ {
		does(t, s, "a="+string(rune('0'+time)), time)
		open = append(open, begun(t, s))
	}
	prunes(t, s, 0)
	commits(t, s, open[1], 2)
	prunes(t, s, 0)
	commits(t, s, open[0], 1)
	// Nobody has the snapshot 2 any more, but what is older than the water's version goes.
	prunes(t, s, 2)
	sees(t, s, open[2], "a=3")
	writes(t, s, open[2], "a=9")
	prunes(t, s, 0)
	refuses(t, s, open[2], api.ErrConflict)
	prunes(t, s, 1)
	sees(t, s, open[3], "a=4")
	wants(t, "P13: Abort", s.Abort(open[4]), api.OK)
	prunes(t, s, 0)
	wants(t, "P13: Abort", s.Abort(open[3]), api.OK)
	prunes(t, s, 1)
	has(t, s, "a=5")
}

// TestPruneKeepsConflicts: what is newer than a snapshot is newer still, dead or not.
func TestPruneKeepsConflicts(t *testing.T) {
	for _, first := range []string{"a=1", "a-", "none-"} {
		s := opened(t, pavilion.NewDisk(), 2)
		does(t, s, "a=0 b=0", 1)
		loses, wins := begun(t, s), begun(t, s)
		writes(t, s, loses, "a=2 none=2")
		writes(t, s, wins, "b=2")
		does(t, s, first, 2)
		prunes(t, s, 0)
		refuses(t, s, loses, api.ErrConflict)
		commits(t, s, wins, 3)
	}
	// What the transaction saw go was no newer than its snapshot.
	s := opened(t, pavilion.NewDisk(), 2)
	does(t, s, "a=1", 1)
	does(t, s, "a-", 2)
	n := begun(t, s)
	writes(t, s, n, "a=3")
	prunes(t, s, 2)
	commits(t, s, n, 3)
	has(t, s, "a=3")
}

// TestPruneLeavesTheDiskAlone: what went is there again when the disk is opened again.
func TestPruneLeavesTheDiskAlone(t *testing.T) {
	d := pavilion.NewDisk()
	s := opened(t, d, 2)
	does(t, s, "a=1 b=1", 1)
	does(t, s, "a=2 b-", 2)
	before, left := s.Status(), filesOf(t, d)
	if taken := turnsTaken(t, d, func() { prunes(t, s, 3) }); taken != [api.Files]int{} {
		t.Errorf("P16: Prune took the turns %v", taken)
	}
	holdsAll(t, "P16: Prune", d, left)
	d.Crash(0, "")
	s = opened(t, d, 2)
	if x := s.Status(); x != before {
		t.Errorf("P20: behind Prune and a crash it is %+v, want %+v", x, before)
	}
	has(t, s, "a=2")
	prunes(t, s, 3)
	checkpoints(t, s)
	s = opened(t, d, 2)
	isAt(t, s, 2, 3, 2, 0, 1)
	prunes(t, s, 0)
}

// TestPruneOfWhatOpenFound: items and logs, of whatever times.
func TestPruneOfWhatOpenFound(t *testing.T) {
	d := disk7(t, [api.Files]string{
		record(api.One, 5, "a=5") + record(api.One, 4, "a-"), record(api.One, 6, "b-"),
		5: imageText(3, 1, record(api.Item, 3, "a=3"), record(api.Item, 9, "c=9"), record(api.Item, 2, "c=2")),
	})
	s := opened(t, d, 2)
	isAt(t, s, 9, 10, 9, 0, 6)
	prunes(t, s, 4)
	has(t, s, "a=5 c=9")
	checkpoints(t, s)
	holdsAll(t, "P15: behind Prune", d, [api.Files]string{5: read(t, d, 5), 6: imageText(9, 2, record(api.Item, 5, "a=5"), record(api.Item, 9, "c=9"))})
}

// TestPruneOfAStoreThatIsOver: nothing goes.
func TestPruneOfAStoreThatIsOver(t *testing.T) {
	d := pavilion.NewDisk()
	s := opened(t, d, 2)
	does(t, s, "a=1", 1)
	does(t, s, "a=2", 2)
	d.Crash(0, "")
	for range 2 {
		if n, e := s.Prune(); n != 0 || e != api.ErrOver {
			t.Errorf("P16: Prune of a store that is over = %d, %d, want 0, ErrOver", n, e)
		}
		isAt(t, s, 2, 3, 2, 0, 2)
	}
}
