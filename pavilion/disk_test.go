package pavilion_test

import (
	"math"
	"strings"
	"testing"

	"pavilion/api"
	"pavilion/pavilion"
)

// wants stops at the first answer that is another one: what comes behind it hangs on it.
func wants(t *testing.T, what string, got, want api.Errno) {
	t.Helper()
	if got != want {
		t.Fatalf("%s = %d, want %d", what, got, want)
	}
}

// read takes a turn of the file.
func read(t *testing.T, d *pavilion.Disk, f int) string {
	t.Helper()
	s, e := d.Read(f)
	wants(t, "P7: Read", e, api.OK)
	return s
}

func holds(t *testing.T, d *pavilion.Disk, f int, want string) {
	t.Helper()
	if s := read(t, d, f); s != want {
		t.Fatalf("P7: file %d holds %.40q (%d bytes), want %.40q (%d bytes)", f, s, len(s), want, len(want))
	}
}

// filesOf takes a turn of each file.
func filesOf(t *testing.T, d *pavilion.Disk) [api.Files]string {
	t.Helper()
	var texts [api.Files]string
	for f := range texts {
		texts[f] = read(t, d, f)
	}
	return texts
}

// lasts loses all that does not last.
func lasts(t *testing.T, d *pavilion.Disk, f int, want string) {
	t.Helper()
	d.Crash(0, "")
	holds(t, d, f, want)
}

// diskWith has some bytes in one file that last, and behind them some that do not.
func diskWith(t *testing.T, f int, lasting, loose string) *pavilion.Disk {
	t.Helper()
	d := pavilion.NewDisk()
	wants(t, "P7: Append", d.Append(f, lasting), api.OK)
	wants(t, "P7: Sync", d.Sync(f), api.OK)
	wants(t, "P7: Append", d.Append(f, loose), api.OK)
	return d
}

// turnsOf: each kind of turn, for itself; those that are refused if they do not fail, too.
func turnsOf(d *pavilion.Disk, f int) map[string]func() api.Errno {
	return map[string]func() api.Errno{
		"Append":              func() api.Errno { return d.Append(f, "more") },
		"Append of nothing":   func() api.Errno { return d.Append(f, "") },
		"Append without room": func() api.Errno { return d.Append(f, strings.Repeat("x", api.MaxFile+1)) },
		"Sync":                func() api.Errno { return d.Sync(f) },
		"Cut":                 func() api.Errno { return d.Cut(f, 0) },
		"Cut below 0":         func() api.Errno { return d.Cut(f, -1) },
		"Cut above":           func() api.Errno { return d.Cut(f, math.MaxInt) },
		"Read":                func() api.Errno { _, e := d.Read(f); return e },
	}
}

func TestNewDiskIsEmpty(t *testing.T) {
	d := pavilion.NewDisk()
	if d == nil {
		t.Fatal("P7: NewDisk() is nil")
	}
	for f := range api.Files {
		holds(t, d, f, "")
		wants(t, "P7: Cut of an empty file to 1", d.Cut(f, 1), api.ErrArg)
		wants(t, "P7: Cut of an empty file to 0", d.Cut(f, 0), api.OK)
		wants(t, "P7: Sync of an empty file", d.Sync(f), api.OK)
	}
	d.Crash(3, "junk")
	for f := range api.Files {
		holds(t, d, f, "")
	}
}

func TestFilesStandForThemselves(t *testing.T) {
	d := pavilion.NewDisk()
	for f := range api.Files {
		wants(t, "P7: Append", d.Append(f, strings.Repeat("ab", f)), api.OK)
		wants(t, "P7: Append", d.Append(f, "\x00\xff"), api.OK)
	}
	for f := range api.Files {
		holds(t, d, f, strings.Repeat("ab", f)+"\x00\xff")
	}
	wants(t, "P7: Cut", d.Cut(3, 1), api.OK)
	wants(t, "P7: Sync", d.Sync(5), api.OK)
	d.Crash(0, "")
	for f := range api.Files {
		want := map[int]string{3: "a", 5: "ababababab\x00\xff"}[f]
		holds(t, d, f, want)
	}
}

func TestNoSuchFile(t *testing.T) {
	d := diskWith(t, 0, "ab", "cd")
	wants(t, "P7: Append", d.Append(api.Files-1, "z"), api.OK)
	wants(t, "P8: Trouble", d.Trouble(0, 1), api.OK)
	for _, f := range []int{math.MinInt, -1 << 32, -1, api.Files, api.Files + 1, 1 << 32, math.MaxInt} {
		for what, turn := range turnsOf(d, f) {
			wants(t, "P7: "+what+" where there is no such file", turn(), api.ErrFile)
		}
		if s, _ := d.Read(f); s != "" {
			t.Errorf("P1: Read(%d) tells %q beside an error", f, s)
		}
		for _, k := range []int{math.MinInt, -1, 0, 1} {
			wants(t, "P8: Trouble where there is no such file", d.Trouble(f, k), api.ErrFile)
		}
	}
	wants(t, "P8: Sync, the first turn", d.Sync(0), api.ErrDevice)
	holds(t, d, 0, "abcd")
	holds(t, d, api.Files-1, "z")
	lasts(t, d, 0, "ab")
}

func TestAppendUpToTheBrim(t *testing.T) {
	for _, first := range []int{0, 1, api.MaxFile / 2, api.MaxFile - 1, api.MaxFile} {
		d := pavilion.NewDisk()
		brim := strings.Repeat("x", first) + strings.Repeat("y", api.MaxFile-first)
		wants(t, "P7: Append", d.Append(2, brim[:first]), api.OK)
		wants(t, "P7: Append of one byte too many", d.Append(2, brim[first:]+"z"), api.ErrFull)
		wants(t, "P7: Append of far too many", d.Append(2, strings.Repeat("z", 1<<17)), api.ErrFull)
		holds(t, d, 2, brim[:first])
		wants(t, "P7: Append up to the brim", d.Append(2, brim[first:]), api.OK)
		wants(t, "P7: Append of one more", d.Append(2, "z"), api.ErrFull)
		wants(t, "P7: Append of nothing to a full file", d.Append(2, ""), api.OK)
		holds(t, d, 2, brim)
		wants(t, "P7: Append to another file", d.Append(3, brim), api.OK)
		wants(t, "P7: Cut", d.Cut(2, api.MaxFile-1), api.OK)
		wants(t, "P7: Append of two", d.Append(2, "zz"), api.ErrFull)
		wants(t, "P7: Append of one", d.Append(2, "z"), api.OK)
		holds(t, d, 2, brim[:api.MaxFile-1]+"z")
	}
}

func TestAppendDoesNotLast(t *testing.T) {
	d := diskWith(t, 1, "ab", "cd")
	wants(t, "P7: Append", d.Append(1, "ef"), api.OK)
	holds(t, d, 1, "abcdef")
	lasts(t, d, 1, "ab")
}

func TestSyncLasts(t *testing.T) {
	d := diskWith(t, 1, "ab", "cd")
	wants(t, "P7: Append", d.Append(1, "ef"), api.OK)
	wants(t, "P7: Sync", d.Sync(1), api.OK)
	lasts(t, d, 1, "abcdef")
}

func TestOnlySyncAndCutMakeLast(t *testing.T) {
	d := diskWith(t, 4, "ab", "cd")
	holds(t, d, 4, "abcd")
	wants(t, "P7: Append of nothing", d.Append(4, ""), api.OK)
	wants(t, "P7: Append without room", d.Append(4, strings.Repeat("x", api.MaxFile)), api.ErrFull)
	wants(t, "P7: Cut below 0", d.Cut(4, -1), api.ErrArg)
	wants(t, "P7: Cut above", d.Cut(4, 5), api.ErrArg)
	wants(t, "P7: Sync of another file", d.Sync(5), api.OK)
	wants(t, "P7: Cut of another file", d.Cut(3, 0), api.OK)
	wants(t, "P8: Trouble", d.Trouble(4, 0), api.OK)
	lasts(t, d, 4, "ab")
}

func TestCut(t *testing.T) {
	const lasting, loose = "abc", "defg"
	all := lasting + loose
	for n := range len(all) + 1 {
		d := diskWith(t, 0, lasting, loose)
		wants(t, "P7: Cut", d.Cut(0, n), api.OK)
		holds(t, d, 0, all[:n])
		wants(t, "P7: Append behind a Cut", d.Append(0, "xyz"), api.OK)
		holds(t, d, 0, all[:n]+"xyz")
		lasts(t, d, 0, all[:n])
	}
	for _, n := range []int{math.MinInt, -1 << 32, -1, len(all) + 1, api.MaxFile, api.MaxFile + 1, 1 << 32, math.MaxInt} {
		d := diskWith(t, 0, lasting, loose)
		wants(t, "P7: Cut to what cannot be", d.Cut(0, n), api.ErrArg)
		holds(t, d, 0, all)
		lasts(t, d, 0, lasting)
	}
}

func TestTheTurnThatFails(t *testing.T) {
	for what := range turnsOf(nil, 0) {
		for k := 1; k <= 4; k++ {
			d := diskWith(t, 6, "ab", "cd")
			wants(t, "P8: Trouble", d.Trouble(6, k), api.OK)
			for range k - 1 {
				holds(t, d, 6, "abcd")
			}
			wants(t, "P8: "+what+", the turn that fails", turnsOf(d, 6)[what](), api.ErrDevice)
			holds(t, d, 6, "abcd")
			lasts(t, d, 6, "ab")
		}
	}
}

// TestEveryCallIsATurn: what is refused, or changes nothing, counts as well.
func TestEveryCallIsATurn(t *testing.T) {
	for what := range turnsOf(nil, 0) {
		d := diskWith(t, 6, "ab", "cd")
		wants(t, "P8: Trouble", d.Trouble(6, 3), api.OK)
		for range 2 {
			if turnsOf(d, 6)[what]() == api.ErrDevice {
				t.Errorf("P8: %s fails ahead of its turn", what)
			}
		}
		wants(t, "P8: Sync behind two of "+what, d.Sync(6), api.ErrDevice)
		wants(t, "P8: Sync behind the one that failed", d.Sync(6), api.OK)
	}
}

func TestOnlyOneTurnFails(t *testing.T) {
	d := diskWith(t, 2, "ab", "")
	wants(t, "P8: Trouble", d.Trouble(2, 1), api.OK)
	if s, e := d.Read(2); s != "" || e != api.ErrDevice {
		t.Errorf("P8: Read = %q, %d, want nothing and ErrDevice", s, e)
	}
	for range 50 {
		holds(t, d, 2, "ab")
	}
	wants(t, "P8: Trouble once more", d.Trouble(2, 2), api.OK)
	holds(t, d, 2, "ab")
	wants(t, "P8: Sync", d.Sync(2), api.ErrDevice)
}

func TestTroubleIsOneFilesOwn(t *testing.T) {
	d := pavilion.NewDisk()
	for f := range api.Files {
		wants(t, "P8: Trouble", d.Trouble(f, f+1), api.OK)
	}
	for turn := 1; turn <= api.Files+1; turn++ {
		for f := range api.Files {
			want := api.OK
			if turn == f+1 {
				want = api.ErrDevice
			}
			wants(t, "P8: Append", d.Append(f, "x"), want)
		}
	}
	for f := range api.Files {
		holds(t, d, f, strings.Repeat("x", api.Files))
	}
}

func TestTheNextTroubleTakesThePlaceOfTheLast(t *testing.T) {
	d := pavilion.NewDisk()
	for _, c := range []struct{ first, behind, second int }{{1, 0, 3}, {3, 1, 1}, {3, 2, 3}, {5, 1, 2}} {
		wants(t, "P8: Trouble", d.Trouble(0, c.first), api.OK)
		for range c.behind {
			wants(t, "P8: Sync", d.Sync(0), api.OK)
		}
		wants(t, "P8: Trouble in place of the last", d.Trouble(0, c.second), api.OK)
		for turn := 1; turn < 9; turn++ {
			want := api.OK
			if turn == c.second {
				want = api.ErrDevice
			}
			wants(t, "P8: Sync", d.Sync(0), want)
		}
	}
}

func TestTroubleWithNone(t *testing.T) {
	d := pavilion.NewDisk()
	wants(t, "P8: Trouble with 0 where there was none", d.Trouble(0, 0), api.OK)
	holds(t, d, 0, "")
	wants(t, "P8: Trouble", d.Trouble(0, 1), api.OK)
	wants(t, "P8: Trouble of another file", d.Trouble(1, 1), api.OK)
	wants(t, "P8: Trouble with 0", d.Trouble(0, 0), api.OK)
	for range 5 {
		wants(t, "P8: Sync", d.Sync(0), api.OK)
	}
	wants(t, "P8: Sync of another file", d.Sync(1), api.ErrDevice)
}

func TestTroubleThatCannotBe(t *testing.T) {
	d := pavilion.NewDisk()
	wants(t, "P8: Trouble", d.Trouble(3, 2), api.OK)
	for _, k := range []int{-1, -2, -1 << 32, math.MinInt} {
		wants(t, "P8: Trouble below 0", d.Trouble(3, k), api.ErrArg)
	}
	wants(t, "P8: the first turn", d.Sync(3), api.OK)
	wants(t, "P8: the second turn, as it was told ahead", d.Sync(3), api.ErrDevice)
	wants(t, "P8: Trouble below 0", d.Trouble(3, -1), api.ErrArg)
	wants(t, "P8: the third turn", d.Sync(3), api.OK)
}

func TestTroubleFarAway(t *testing.T) {
	d := pavilion.NewDisk()
	for f, k := range []int{1000, 1<<32 + 5, math.MaxInt} {
		wants(t, "P8: Trouble", d.Trouble(f, k), api.OK)
	}
	for turn := 1; turn < 2000; turn++ {
		want := api.OK
		if turn == 1000 {
			want = api.ErrDevice
		}
		wants(t, "P8: Sync of file 0", d.Sync(0), want)
		wants(t, "P8: Sync of file 1", d.Sync(1), api.OK)
		wants(t, "P8: Sync of file 2", d.Sync(2), api.OK)
	}
}

func TestCrash(t *testing.T) {
	for _, c := range []struct {
		keep       int
		junk, want string
	}{
		{0, "", "abc"}, {-1, "", "abc"}, {math.MinInt, "", "abc"}, {1, "", "abcd"}, {3, "", "abcdef"}, {4, "", "abcdefg"}, {5, "", "abcdefg"}, {math.MaxInt, "", "abcdefg"},
		{0, "J", "abcJ"}, {0, "JUNK", "abcJUNK"}, {0, "JUNKY", "abcJUNK"}, {-1, "JU", "abcJU"}, {math.MinInt, "JUNKY", "abcJUNK"},
		{1, "JUNKY", "abcdJUN"}, {2, "JUNKY", "abcdeJU"}, {3, "JUNKY", "abcdefJ"}, {3, "\x00\xff", "abcdef\x00"}, {2, "J", "abcdeJ"},
		{4, "JUNKY", "abcdefg"}, {5, "JUNKY", "abcdefg"}, {math.MaxInt, "JUNKY", "abcdefg"},
		{1, strings.Repeat("J", 1<<17), "abcdJJJ"},
	} {
		for f := range api.Files {
			d := diskWith(t, f, "abc", "defg")
			d.Crash(c.keep, c.junk)
			if s := read(t, d, f); s != c.want {
				t.Errorf("P8: behind Crash(%d, %.9q) file %d holds %.20q, want %q", c.keep, c.junk, f, s, c.want)
			}
			d.Crash(0, "more")
			if s := read(t, d, f); s != c.want {
				t.Errorf("P8: what is there behind Crash(%d, %.9q) does not last: %.20q", c.keep, c.junk, s)
			}
		}
	}
}

// TestCrashOfEachFileForItself: keep and junk are reckoned anew in each file.
func TestCrashOfEachFileForItself(t *testing.T) {
	d := pavilion.NewDisk()
	for f := range api.Files {
		wants(t, "P7: Append", d.Append(f, "ab"), api.OK)
		wants(t, "P7: Sync", d.Sync(f), api.OK)
		wants(t, "P7: Append", d.Append(f, strings.Repeat("x", f)), api.OK)
	}
	d.Crash(2, "JUN")
	for f, want := range []string{"ab", "abx", "abxx", "abxxJ", "abxxJU", "abxxJUN", "abxxJUN"} {
		holds(t, d, f, want)
	}
}

func TestCrashOfAFullFile(t *testing.T) {
	d := diskWith(t, 0, "", strings.Repeat("x", api.MaxFile))
	d.Crash(1, strings.Repeat("J", api.MaxFile))
	holds(t, d, 0, "x"+strings.Repeat("J", api.MaxFile-1))
	wants(t, "P7: Append", d.Append(0, "y"), api.ErrFull)
	d = diskWith(t, 0, "", strings.Repeat("x", api.MaxFile))
	d.Crash(1, "J")
	wants(t, "P7: Append of one byte too many", d.Append(0, strings.Repeat("y", api.MaxFile-1)), api.ErrFull)
	wants(t, "P7: Append into the room that is free now", d.Append(0, strings.Repeat("y", api.MaxFile-2)), api.OK)
	holds(t, d, 0, "xJ"+strings.Repeat("y", api.MaxFile-2))
}

func TestCrashEndsAllTrouble(t *testing.T) {
	d := pavilion.NewDisk()
	for f := range api.Files {
		wants(t, "P8: Trouble", d.Trouble(f, 1+f%2), api.OK)
	}
	d.Crash(0, "")
	for f := range api.Files {
		for range 3 {
			wants(t, "P8: Sync behind a crash", d.Sync(f), api.OK)
		}
	}
	wants(t, "P8: Trouble behind a crash", d.Trouble(0, 2), api.OK)
	wants(t, "P8: the first turn", d.Sync(0), api.OK)
	wants(t, "P8: the second turn", d.Sync(0), api.ErrDevice)
}

func TestWhatFailsDoesNotLast(t *testing.T) {
	d := diskWith(t, 0, "ab", "cd")
	wants(t, "P8: Trouble", d.Trouble(0, 1), api.OK)
	wants(t, "P8: Sync", d.Sync(0), api.ErrDevice)
	d.Crash(1, "J")
	holds(t, d, 0, "abcJ")
}
