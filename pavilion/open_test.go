package pavilion_test

import (
	"maps"
	"math"
	"strings"
	"testing"

	"pavilion/api"
	"pavilion/pavilion"
)

// disk7 has texts in its files that last.
func disk7(t *testing.T, texts [api.Files]string) *pavilion.Disk {
	t.Helper()
	d := pavilion.NewDisk()
	for f, s := range texts {
		wants(t, "P7: Append", d.Append(f, s), api.OK)
		wants(t, "P7: Sync", d.Sync(f), api.OK)
	}
	return d
}

// turnsTaken tells how many turns each file had in a call: trouble that is far away counts them. It is -1 where the call set other trouble.
func turnsTaken(t *testing.T, d *pavilion.Disk, call func()) [api.Files]int {
	t.Helper()
	const far = 50
	for f := range api.Files {
		wants(t, "P8: Trouble", d.Trouble(f, far), api.OK)
	}
	call()
	var taken [api.Files]int
	for f := range api.Files {
		taken[f] = far - 1
		for taken[f] >= 0 && !pending(d, f) {
			taken[f]--
		}
	}
	return taken
}

// pending tells whether a file's next turn is to fail: so nobody took it since Trouble(f, 1).
func pending(d *pavilion.Disk, f int) bool {
	_, e := d.Read(f)
	return e == api.ErrDevice
}

func TestOpenRefuses(t *testing.T) {
	d := disk7(t, [api.Files]string{"torn", 4: "torn"})
	s := opened(t, pavilion.NewDisk(), 2)
	held := opened(t, d, 2)
	wants(t, "P7: Append", d.Append(0, "torn"), api.OK)
	taken := turnsTaken(t, d, func() {
		for _, n := range []int{math.MinInt, -1, 0, 5, 1 << 32, 1<<32 + 1, math.MaxInt} {
			for _, last := range []int{0, 1, api.MaxTime} {
				if s, e := pavilion.Open(d, api.Config{Shards: n, Last: last}); s != nil || e != api.ErrArg {
					t.Errorf("P9: Open with %d shards = %v, %d, want nil, ErrArg", n, s, e)
				}
			}
		}
		for _, last := range []int{math.MinInt, -1, 0, 65536, 1 << 32, 1<<32 + 1, math.MaxInt} {
			if s, e := pavilion.Open(d, api.Config{Shards: 1, Last: last}); s != nil || e != api.ErrArg {
				t.Errorf("P9: Open to the time %d = %v, %d, want nil, ErrArg", last, s, e)
			}
		}
	})
	if taken != [api.Files]int{} {
		t.Errorf("P9: an Open that was refused took turns: %v", taken)
	}
	begun(t, held)
	begun(t, s)
	for shards := 1; shards <= api.MaxShards; shards++ {
		for _, last := range []int{1, api.MaxTime} {
			openedTo(t, d, shards, last)
		}
	}
}

// TestOpenTurns: each file has a Sync and a Read, and only what is torn, in a log or the book, has a Cut.
func TestOpenTurns(t *testing.T) {
	one := record(api.One, 1, "a=1")
	for shards := 1; shards <= api.MaxShards; shards++ {
		whole := disk7(t, [api.Files]string{one, one, one, one, one, one, one})
		if taken := turnsTaken(t, whole, func() { opened(t, whole, shards) }); taken != [api.Files]int{2, 2, 2, 2, 2, 2, 2} {
			t.Errorf("P9: Open with %d shards, nothing torn, took the turns %v", shards, taken)
		}
		torn := disk7(t, [api.Files]string{one + "0", "1", one + "22", one + one + "3", one + "4", one + "5", "6"})
		want := [api.Files]int{2, 2, 2, 2, 3, 2, 2}
		for f := range shards {
			want[f] = 3
		}
		if taken := turnsTaken(t, torn, func() { opened(t, torn, shards) }); taken != want {
			t.Errorf("P9: Open with %d shards, all torn, took the turns %v, want %v", shards, taken, want)
		}
		for f, text := range []string{one + "0", "1", one + "22", one + one + "3", one + "4", one + "5", "6"} {
			if f < shards || f == api.Book {
				text = strings.TrimRight(text, "01234")
			}
			holds(t, torn, f, text)
		}
	}
}

// TestOpenSyncs: what has been read outlives a crash, in all files.
func TestOpenSyncs(t *testing.T) {
	d := pavilion.NewDisk()
	one := record(api.One, 1, "a=1")
	for f := range api.Files {
		wants(t, "P7: Append", d.Append(f, one), api.OK)
	}
	opened(t, d, 1)
	d.Crash(0, "")
	for f := range api.Files {
		holds(t, d, f, one)
	}
}

// TestOpenStopsAtOnce: the turn that fails is the last one, in whatever file it comes.
func TestOpenStopsAtOnce(t *testing.T) {
	one := record(api.One, 1, "a=1")
	for f := range api.Files {
		for k := 1; k <= 2; k++ {
			d := pavilion.NewDisk()
			for g := range api.Files {
				wants(t, "P7: Append", d.Append(g, one+"torn"), api.OK)
				if g > f {
					wants(t, "P8: Trouble", d.Trouble(g, 1), api.OK)
				}
			}
			wants(t, "P8: Trouble", d.Trouble(f, k), api.OK)
			if s, e := pavilion.Open(d, api.Config{Shards: 4, Last: 9}); s != nil || e != api.ErrDevice {
				t.Errorf("P9: Open with the turn %d of file %d failing = %v, %d, want nil, ErrDevice", k, f, s, e)
			}
			for g := f + 1; g < api.Files; g++ {
				if !pending(d, g) {
					t.Errorf("P9: file %d had a turn behind the one of file %d that failed", g, f)
				}
			}
			d.Crash(0, "")
			for g := range api.Files {
				// A Sync comes ahead of the Read; nothing is cut.
				want := ""
				if g < f || g == f && k == 2 {
					want = one + "torn"
				}
				holds(t, d, g, want)
			}
		}
	}
}

func TestOpenStopsAtACutThatFails(t *testing.T) {
	one := record(api.One, 1, "a=1")
	const shards = 3
	order := []int{0, 1, 2, api.Book}
	for i, f := range order {
		d := disk7(t, [api.Files]string{one + "torn", one + "torn", one + "torn", one + "torn", one + "torn", one + "torn", one + "torn"})
		for _, g := range order[i:] {
			wants(t, "P8: Trouble", d.Trouble(g, 3), api.OK)
		}
		if s, e := pavilion.Open(d, api.Config{Shards: shards, Last: 9}); s != nil || e != api.ErrDevice {
			t.Errorf("P9: Open with the Cut of file %d failing = %v, %d, want nil, ErrDevice", f, s, e)
		}
		for _, g := range order[i+1:] {
			if !pending(d, g) {
				t.Errorf("P9: file %d had a Cut behind the one of file %d that failed", g, f)
			}
		}
		for g := range api.Files {
			want := one + "torn"
			if g < shards && g < f {
				want = one
			}
			holds(t, d, g, want)
		}
		has(t, opened(t, d, shards), "a=1")
	}
}

// recalled is what files hold, and what a store of two shards has of it.
type recalled struct {
	files                [api.Files]string
	want                 string
	last, next, versions int
}

func logsToRecall() map[string]recalled {
	a1, b2, c2, done2 := record(api.One, 1, "a=1"), record(api.Part, 2, "b=2"), record(api.Part, 2, "c=2"), record(api.Done, 2, "")
	item := record(api.Item, 2, "a=i")
	return map[string]recalled{
		"nothing":                            {[api.Files]string{}, "", 0, 1, 0},
		"parts that were decided":            {[api.Files]string{b2, a1 + c2, 4: done2}, "a=1 b=2 c=2", 2, 3, 3},
		"parts that were not":                {[api.Files]string{b2, a1 + c2}, "a=1", 1, 3, 1},
		"a decision on another time":         {[api.Files]string{b2, c2, 4: record(api.Done, 1, "")}, "", 0, 3, 0},
		"one part, decided":                  {[api.Files]string{b2, 4: done2}, "b=2", 2, 3, 1},
		"a decision among others":            {[api.Files]string{b2, c2, 4: record(api.Done, 9, "") + done2 + record(api.Done, 1, "")}, "b=2 c=2", 2, 10, 2},
		"decided twice":                      {[api.Files]string{b2, c2, 4: done2 + done2}, "b=2 c=2", 2, 3, 2},
		"a decision alone":                   {[api.Files]string{4: done2}, "", 0, 3, 0},
		"a decision in a log":                {[api.Files]string{b2 + done2, done2 + c2}, "", 0, 3, 0},
		"a decision that is torn":            {[api.Files]string{b2, c2, 4: done2[:8]}, "", 0, 3, 0},
		"one record in a book":               {[api.Files]string{4: a1 + b2 + done2}, "", 0, 3, 0},
		"what is behind junk":                {[api.Files]string{a1 + "p" + b2, 4: done2 + "x" + record(api.Done, 7, "")}, "a=1", 1, 3, 1},
		"a log of no shard":                  {[api.Files]string{2: a1, 3: b2, 4: done2}, "", 0, 3, 0},
		"a log of no shard, of a later time": {[api.Files]string{a1, "", record(api.One, 9, "a=9")}, "a=1", 1, 2, 1},
		"keys of another shard":              {[api.Files]string{record(api.One, 1, "a=1 b=1"), record(api.One, 2, "b=2 c=2")}, "a=1 b=2 c=2", 2, 3, 4},
		"times that fall":                    {[api.Files]string{record(api.One, 5, "a-") + record(api.One, 4, "a=4") + record(api.One, 3, "b=3")}, "b=3", 5, 6, 3},
		"a time twice in a log":              {[api.Files]string{record(api.One, 5, "a=5 b=5") + record(api.One, 5, "a=6")}, "a=6 b=5", 5, 6, 2},
		"a time twice, dead at last":         {[api.Files]string{record(api.One, 5, "a=5"), record(api.One, 5, "a-")}, "", 5, 6, 1},
		"a time twice, One and Part":         {[api.Files]string{record(api.One, 2, "b=1"), b2, 4: done2}, "b=2", 2, 3, 1},
		"the same in the other order":        {[api.Files]string{b2, record(api.One, 2, "b=1"), 4: done2}, "b=1", 2, 3, 1},
		"other kinds in a log":               {[api.Files]string{record(api.Item, 8, "z=1") + spell(api.Record{Kind: api.Image, Time: 9, Generation: 99}) + a1, spell(api.Record{Kind: api.Whole}) + imageText(3, 3)}, "a=1", 1, 10, 1},
		"other kinds in the book":            {[api.Files]string{a1, 4: record(api.Item, 8, "z=1") + imageText(4, 1, item)}, "a=1", 1, 9, 1},
		"other kinds of a decided time":      {[api.Files]string{record(api.Item, 2, "z=1") + b2, 4: done2}, "b=2", 2, 3, 1},
		"other kinds that decide nothing":    {[api.Files]string{b2, c2, 4: b2 + record(api.One, 2, "a=1") + record(api.Item, 2, "a=1") + imageText(2, 1)}, "", 0, 3, 0},
	}
}

func imagesToRecall() map[string]recalled {
	a1, b2, c2, done2 := record(api.One, 1, "a=1"), record(api.Part, 2, "b=2"), record(api.Part, 2, "c=2"), record(api.Done, 2, "")
	item := record(api.Item, 2, "a=i")
	return map[string]recalled{
		"an image":                        {[api.Files]string{5: imageText(3, 1, item)}, "a=i", 3, 4, 1},
		"an image in file 6":              {[api.Files]string{6: imageText(3, 1, item)}, "a=i", 3, 4, 1},
		"an image of nothing":             {[api.Files]string{5: imageText(3, 1)}, "", 3, 4, 0},
		"an image of the time 0":          {[api.Files]string{a1, "", "", "", "", imageText(0, 1)}, "a=1", 1, 2, 1},
		"an image and logs":               {[api.Files]string{a1 + record(api.One, 2, "a=2"), record(api.One, 3, "a=3") + record(api.One, 4, "b=4"), 5: imageText(3, 1, item)}, "a=i b=4", 4, 5, 2},
		"parts up to the image's time":    {[api.Files]string{b2, c2, 4: done2, 5: imageText(2, 1, item)}, "a=i", 2, 3, 1},
		"parts above the image's time":    {[api.Files]string{b2, c2, 4: done2, 5: imageText(1, 1, record(api.Item, 1, "b=1"))}, "b=2 c=2", 2, 3, 3},
		"logs behind an image, undecided": {[api.Files]string{record(api.Part, 9, "b=2"), 5: imageText(3, 1, item)}, "a=i", 3, 10, 1},
		"old times in logs":               {[api.Files]string{a1, 5: imageText(7, 1, item)}, "a=i", 7, 8, 1},
		"an item above the image's time":  {[api.Files]string{record(api.One, 9, "a=9"), 5: imageText(3, 1, record(api.Item, 9, "a=i"), record(api.Item, 12, "b=i"))}, "a=9 b=i", 12, 13, 2},
		"items of one key":                {[api.Files]string{5: imageText(3, 1, record(api.Item, 3, "a=3"), record(api.Item, 2, "a=2"), record(api.Item, 3, "a=4"))}, "a=4", 3, 4, 2},
		"the greater generation in 6":     {[api.Files]string{5: imageText(3, 1, item), 6: imageText(2, 2)}, "", 2, 3, 0},
		"the greater generation in 5":     {[api.Files]string{5: imageText(2, 300), 6: imageText(3, 299, item)}, "", 2, 3, 0},
		"the same generation":             {[api.Files]string{5: imageText(3, 7, item), 6: imageText(4, 7)}, "a=i", 3, 4, 1},
		"the greater one is not whole":    {[api.Files]string{5: imageText(3, 1, item), 6: spell(api.Record{Kind: api.Image, Time: 4, Generation: 2})}, "a=i", 3, 4, 1},
		"the greater one is torn":         {[api.Files]string{5: imageText(4, 2, record(api.Item, 4, "z=1"))[:30], 6: imageText(3, 1, item)}, "a=i", 3, 4, 1},
		"junk behind an image":            {[api.Files]string{5: imageText(3, 1, item) + "junk" + spell(api.Record{Kind: api.Whole})}, "a=i", 3, 4, 1},
		"junk ahead of an image":          {[api.Files]string{5: "x" + imageText(3, 1, item)}, "", 0, 1, 0},
		"two ends":                        {[api.Files]string{5: imageText(3, 1) + spell(api.Record{Kind: api.Whole})}, "", 0, 1, 0},
		"two images in a file":            {[api.Files]string{5: imageText(3, 1) + imageText(4, 2)}, "", 0, 1, 0},
		"an item behind the end":          {[api.Files]string{5: imageText(3, 1) + item}, "", 0, 1, 0},
		"no beginning":                    {[api.Files]string{5: item + spell(api.Record{Kind: api.Whole})}, "", 0, 1, 0},
		"an end alone":                    {[api.Files]string{5: spell(api.Record{Kind: api.Whole})}, "", 0, 1, 0},
		"a beginning alone":               {[api.Files]string{5: spell(api.Record{Kind: api.Image, Time: 3, Generation: 1})}, "", 0, 1, 0},
		"a log's record in an image":      {[api.Files]string{5: imageText(3, 1, item, a1)}, "", 0, 1, 0},
		"two beginnings":                  {[api.Files]string{5: spell(api.Record{Kind: api.Image, Time: 3, Generation: 1}) + imageText(3, 1, item)}, "", 0, 1, 0},
		"images of which none is good":    {[api.Files]string{a1, 5: imageText(3, 1)[:12], 6: "junk"}, "a=1", 1, 2, 1},
	}
}

func TestOpenRecalls(t *testing.T) {
	cases := logsToRecall()
	maps.Copy(cases, imagesToRecall())
	for what, c := range cases {
		s := opened(t, disk7(t, c.files), 2)
		if x := s.Status(); x != (api.Status{Last: c.last, Next: c.next, Water: c.last, Versions: c.versions}) {
			t.Errorf("P9: %s: Status() = %+v, want Last %d, Next %d, Versions %d", what, x, c.last, c.next, c.versions)
		}
		n := begun(t, s)
		if l, e := s.Scan(n, "", behindAll, 99); told(l) != c.want || e != api.OK {
			t.Errorf("P9: %s: it has %q, %d, want %q", what, told(l), e, c.want)
		}
	}
}

// TestOpenKeepsOldVersions: all that the logs tell is a version, though only the newest is seen.
func TestOpenKeepsOldVersions(t *testing.T) {
	d := pavilion.NewDisk()
	s := opened(t, d, 2)
	does(t, s, "a=1 b=1", 1)
	does(t, s, "a=2", 2)
	does(t, s, "a- b=3", 3)
	before := s.Status()
	s = opened(t, d, 2)
	if x := s.Status(); x != before {
		t.Errorf("P9: opened again it is %+v, want %+v", x, before)
	}
	has(t, s, "b=3")
	does(t, s, "a=4", 4)
	has(t, s, "a=4 b=3")
}

// TestOneShardReadsOneLog: how many logs there are is the config's to say.
func TestOneShardReadsOneLog(t *testing.T) {
	texts := [api.Files]string{record(api.One, 1, "a=1"), record(api.One, 2, "b=2"), record(api.One, 3, "c=3"), record(api.One, 4, "d=4")}
	for shards, want := range map[int]string{1: "a=1", 2: "a=1 b=2", 3: "a=1 b=2 c=3", 4: "a=1 b=2 c=3 d=4"} {
		s := opened(t, disk7(t, texts), shards)
		has(t, s, want)
		isAt(t, s, shards, shards+1, shards, 0, shards)
	}
}

func TestStoresThatAreOver(t *testing.T) {
	for what, end := range map[string]func(d *pavilion.Disk){
		"a crash":            func(d *pavilion.Disk) { d.Crash(0, "") },
		"another Open":       func(d *pavilion.Disk) { pavilion.Open(d, api.Config{Shards: 3, Last: 1}) },
		"an Open that fails": func(d *pavilion.Disk) { d.Trouble(0, 1); pavilion.Open(d, api.Config{Shards: 2, Last: 9}) },
		"a late failure":     func(d *pavilion.Disk) { d.Trouble(6, 2); pavilion.Open(d, api.Config{Shards: 2, Last: 9}) },
		"a crash and an Open": func(d *pavilion.Disk) {
			d.Crash(9, "junk")
			pavilion.Open(d, api.Config{Shards: 2, Last: 9})
		},
	} {
		d, other := pavilion.NewDisk(), pavilion.NewDisk()
		s, stands := opened(t, d, 2), opened(t, other, 2)
		does(t, s, "a=1 b=1", 1)
		n := begun(t, s)
		writes(t, s, n, "a=2")
		begun(t, stands)
		before := s.Status()
		// An Open that is refused ends nothing.
		pavilion.Open(d, api.Config{Shards: 2})
		sees(t, s, n, "a=2 b=1")
		end(d)
		log := read(t, d, 1)
		for range 2 {
			isOver(t, what, s)
			for call, e := range callStore(t, s, 99, -1, "") {
				wants(t, "ErrOver is named ahead of all others: "+call+" behind "+what, e, api.ErrOver)
			}
			if x := s.Status(); x != before {
				t.Errorf("P17: behind %s Status() = %+v, want %+v", what, x, before)
			}
		}
		holds(t, d, 1, log)
		sees(t, stands, 0, "")
		s = opened(t, d, 2)
		has(t, s, "a=1 b=1")
	}
}

// TestOnlyTheLastStoreStands: a store that is over does not come back.
func TestOnlyTheLastStoreStands(t *testing.T) {
	d := pavilion.NewDisk()
	var over []*pavilion.Store
	for i := range 5 {
		s := opened(t, d, 2)
		does(t, s, "a=1", i+1)
		over = append(over, s)
		for _, x := range over[:i] {
			isOver(t, "another Open", x)
		}
		begun(t, s)
	}
	d.Crash(0, "")
	for _, x := range over {
		isOver(t, "a crash", x)
	}
}
