package pavilion_test

import (
	"strconv"
	"strings"
	"testing"

	"pavilion/api"
	"pavilion/pavilion"
)

// checkpoints looks too that no version goes by an image.
func checkpoints(t *testing.T, s *pavilion.Store) {
	t.Helper()
	before := s.Status()
	wants(t, "P15: Checkpoint", s.Checkpoint(), api.OK)
	if x := s.Status(); x != before {
		t.Fatalf("P20: behind Checkpoint Status() = %+v, want %+v", x, before)
	}
}

func holdsAll(t *testing.T, what string, d *pavilion.Disk, want [api.Files]string) {
	t.Helper()
	for f, text := range filesOf(t, d) {
		if text != want[f] {
			t.Fatalf("%s: file %d holds %x, want %x", what, f, text, want[f])
		}
	}
}

// TestExampleOfACheckpoint: as the document tells it, and the same with any number of shards.
func TestExampleOfACheckpoint(t *testing.T) {
	for shards := 1; shards <= api.MaxShards; shards++ {
		d := pavilion.NewDisk()
		s := opened(t, d, shards)
		does(t, s, "a=1 b=1 c=1", 1)
		does(t, s, "b=2 c-", 2)
		does(t, s, "a=3", 3)
		checkpoints(t, s)
		holdsAll(t, "P15: the example", d, [api.Files]string{5: imageText(3, 1, record(api.Item, 3, "a=3"), record(api.Item, 2, "b=2"))})
	}
}

// TestBytesOfACheckpoint: of the frames that the document spells.
func TestBytesOfACheckpoint(t *testing.T) {
	d := pavilion.NewDisk()
	s := opened(t, d, 2)
	does(t, s, "a=x b=y", 1)
	does(t, s, "b-", 2)
	checkpoints(t, s)
	holds(t, d, 5, unhex(t, "70 04 04 0002 0001 6b960f7b 70 05 08 0001 01 00 01 61 01 78 13135c6f 70 06 00 fdea16c4"))
}

func TestCheckpointOfNothing(t *testing.T) {
	d := pavilion.NewDisk()
	s := opened(t, d, 2)
	checkpoints(t, s)
	holdsAll(t, "P15: nothing", d, [api.Files]string{5: imageText(0, 1)})
	isAt(t, s, 0, 1, 0, 0, 0)
	checkpoints(t, s)
	holdsAll(t, "P15: nothing, again", d, [api.Files]string{5: imageText(0, 1), 6: imageText(0, 2)})
	isAt(t, opened(t, d, 2), 0, 1, 0, 0, 0)
}

// TestItems: each key that is there at Last has one, with the time at which it was written, whoever is open.
func TestItems(t *testing.T) {
	for shards := 1; shards <= api.MaxShards; shards++ {
		d := pavilion.NewDisk()
		s := opened(t, d, shards)
		old := begun(t, s)
		does(t, s, "12345678=0123456789abcdef \xff= a\x00=1 a=1 b=1 gone=1", 1)
		does(t, s, "gone- b=2 never-", 2)
		does(t, s, "b- a=", 3)
		does(t, s, "b=4", 4)
		n := begun(t, s)
		writes(t, s, n, "a=9 z=9 b-")
		checkpoints(t, s)
		image := imageText(4, 1, record(api.Item, 1, "12345678=0123456789abcdef"), record(api.Item, 3, "a="), record(api.Item, 1, "a\x00=1"), record(api.Item, 4, "b=4"), record(api.Item, 1, "\xff="))
		holdsAll(t, "P15: items", d, [api.Files]string{5: image})
		sees(t, s, old, "")
		commits(t, s, n, 5)
		d.Crash(0, "")
		s = opened(t, d, shards)
		has(t, s, "12345678=0123456789abcdef a=9 a\x00=1 z=9 \xff=")
		// Of what the image told of, there is the one version; behind it there are three.
		isAt(t, s, 5, 6, 5, 0, 5+3)
	}
}

// TestCheckpointBehindDeletions: the image's time is Last, though none of its items is of that time.
func TestCheckpointBehindDeletions(t *testing.T) {
	d := pavilion.NewDisk()
	s := opened(t, d, 2)
	does(t, s, "a=1 b=1", 1)
	does(t, s, "b-", 2)
	does(t, s, "c-", 3)
	checkpoints(t, s)
	holdsAll(t, "P15: deletions", d, [api.Files]string{5: imageText(3, 1, record(api.Item, 1, "a=1"))})
	s = opened(t, d, 2)
	isAt(t, s, 3, 4, 3, 0, 1)
	does(t, s, "a-", 4)
	checkpoints(t, s)
	s = opened(t, d, 2)
	isAt(t, s, 4, 5, 4, 0, 0)
	has(t, s, "")
}

// TestCheckpointsTakeTurns: each writes into the file that the last one left alone, opened again or not.
func TestCheckpointsTakeTurns(t *testing.T) {
	for _, again := range []bool{false, true} {
		d := pavilion.NewDisk()
		s := opened(t, d, 3)
		var want [api.Files]string
		for i := range 7 {
			value := strconv.Itoa(i)
			does(t, s, "a="+value, i+1)
			checkpoints(t, s)
			want[5+i%2] = imageText(i+1, i+1, record(api.Item, i+1, "a="+value))
			holdsAll(t, "P15: in turn", d, want)
			if again {
				s = opened(t, d, 3)
			}
		}
	}
}

// TestWhichImageIsReplaced: never the one that counts, by P9.
func TestWhichImageIsReplaced(t *testing.T) {
	item := record(api.Item, 2, "a=i")
	good, torn := imageText(3, 7, item), imageText(9, 9, item)
	torn = torn[:len(torn)-1]
	for what, c := range map[string]struct {
		five, six  string
		file       int
		generation int
	}{
		"no image":                      {"", "", 5, 1},
		"no good image":                 {torn, "junk", 5, 1},
		"no good image, the other way":  {"", torn, 5, 1},
		"an image in file 5":            {good, "", 6, 8},
		"an image in file 6":            {"", good, 5, 8},
		"two of the same generation":    {good, imageText(4, 7), 6, 8},
		"a greater one in file 5":       {imageText(1, 8), good, 6, 9},
		"a greater one in file 6":       {good, imageText(1, 300), 5, 301},
		"a greater one that is torn":    {good, torn, 6, 8},
		"the same, the other way":       {torn, good, 5, 8},
		"junk behind an image":          {good + "junk", imageText(5, 6), 6, 8},
		"an image with two ends":        {good, imageText(5, 9) + imageText(5, 9)[11:], 6, 8},
		"the last generation but one":   {imageText(3, api.MaxTime-1), good, 6, api.MaxTime},
		"generations of two bytes each": {imageText(3, 255), imageText(3, 256), 5, 257},
	} {
		d := disk7(t, [api.Files]string{5: c.five, 6: c.six})
		s := opened(t, d, 2)
		does(t, s, "b=1", s.Status().Next)
		time := s.Status().Last
		items := []string{record(api.Item, time, "b=1")}
		if l, _ := s.Get(begun(t, s), "a"); l[0].There {
			items = []string{item, items[0]}
		}
		checkpoints(t, s)
		want := [api.Files]string{5: c.five, 6: c.six}
		want[c.file] = imageText(time, c.generation, items...)
		holdsAll(t, "P15: "+what, d, want)
	}
}

// TestImagesOfOthers: the store goes by what it read, and wrote itself.
func TestImagesOfOthers(t *testing.T) {
	d := pavilion.NewDisk()
	s := opened(t, d, 2)
	wants(t, "P7: Append by others", d.Append(5, imageText(9, 9)), api.OK)
	wants(t, "P7: Append by others", d.Append(6, imageText(9, api.MaxTime)), api.OK)
	wants(t, "P7: Append by others", d.Append(0, "loose"), api.OK)
	does(t, s, "a=1", 1)
	checkpoints(t, s)
	holdsAll(t, "P15: images of others", d, [api.Files]string{5: imageText(1, 1, record(api.Item, 1, "a=1")), 6: imageText(9, api.MaxTime)})
}

// TestTurnsOfACheckpoint: the image is laid down all at once, and files of no shard are left alone.
func TestTurnsOfACheckpoint(t *testing.T) {
	for shards := 1; shards <= api.MaxShards; shards++ {
		d := disk7(t, [api.Files]string{"", "one", "two", "three", 5: "five", 6: "six"})
		s := opened(t, d, shards)
		text, _ := spread(t, shards, 0)
		does(t, s, text, 1)
		want, left := [api.Files]int{4: 1, 5: 3}, filesOf(t, d)
		for f := range shards {
			want[f], left[f] = 1, ""
		}
		if taken := turnsTaken(t, d, func() { checkpoints(t, s) }); taken != want {
			t.Errorf("P15: a Checkpoint of %d shards took the turns %v, want %v", shards, taken, want)
		}
		left[5] = imageText(1, 1, record(api.Item, 1, text))
		holdsAll(t, "P15: files of no shard", d, left)
		want[5], want[6] = 0, 3
		if taken := turnsTaken(t, d, func() { checkpoints(t, s) }); taken != want {
			t.Errorf("P15: the next Checkpoint of %d shards took the turns %v, want %v", shards, taken, want)
		}
		d.Crash(0, "")
		left[6] = imageText(1, 2, record(api.Item, 1, text))
		holdsAll(t, "P15: what lasts", d, left)
	}
}

// turn is the k-th one of a file.
type turn struct{ file, k int }

// checkpointTurns tells the turns of the first Checkpoint of a disk, in their order.
func checkpointTurns(shards int) []turn {
	l := []turn{{5, 1}, {5, 2}, {5, 3}}
	for f := range shards {
		l = append(l, turn{f, 1})
	}
	return append(l, turn{api.Book, 1})
}

// TestCheckpointStopsAtOnce: what was done ahead of the turn that fails is done, and nothing else.
func TestCheckpointStopsAtOnce(t *testing.T) {
	const shards = 3
	text, parts := spread(t, shards, 0, 1, 2)
	order := checkpointTurns(shards)
	for i, c := range order {
		d := disk7(t, [api.Files]string{3: "three", 5: "old"})
		s := opened(t, d, shards)
		does(t, s, text, 1)
		begun(t, s)
		before, left := s.Status(), filesOf(t, d)
		for _, later := range order[i+1:] {
			wants(t, "P8: Trouble", d.Trouble(later.file, 1), api.OK)
		}
		wants(t, "P8: Trouble", d.Trouble(c.file, c.k), api.OK)
		wants(t, "P15: Checkpoint with a turn that fails", s.Checkpoint(), api.ErrDevice)
		for _, later := range order[i+1:] {
			if later.file != c.file && !pending(d, later.file) {
				t.Errorf("P15: file %d had a turn behind the turn %d of file %d that failed", later.file, c.k, c.file)
			}
		}
		isOver(t, "a Checkpoint that failed", s)
		if x := s.Status(); x != before {
			t.Errorf("P17: a Checkpoint that failed left %+v, want %+v", x, before)
		}
		if i > 0 {
			left[5] = ""
		}
		if i == 2 {
			left[5] = imageOfSpread(parts)
			holdsAll(t, "P15: the image does not last yet", d, left)
			left[5] = ""
		}
		if i > 2 {
			left[5] = imageOfSpread(parts)
		}
		for _, done := range order[:i] {
			if done.file != 5 {
				left[done.file] = ""
			}
		}
		d.Crash(0, "")
		holdsAll(t, "P15: behind the turn "+strconv.Itoa(i), d, left)
	}
}

// imageOfSpread tells the first image, of what spread tells at the time 1.
func imageOfSpread(parts [api.MaxShards]string) string {
	var items []string
	for b := 'a'; b <= 'z'; b++ {
		for _, part := range parts {
			if strings.HasPrefix(part, string(b)) {
				items = append(items, record(api.Item, 1, part))
			}
		}
	}
	return imageText(1, 1, items...)
}

// fillImage makes keys of which the image has that many bytes, as evenly as it goes.
func fillImage(t *testing.T, s *pavilion.Store, size int) {
	t.Helper()
	const bare = 13 + api.MaxKey // bytes of an item without a value
	size -= len(imageText(1, 1))
	var words []string
	for left := size/(bare+api.MaxValue) + 1; left > 0; left-- {
		words = append(words, "key"+strconv.Itoa(10000+left)+"="+strings.Repeat("v", size/left-bare))
		size -= size / left
	}
	for i := 0; i < len(words); i += api.MaxWrites {
		does(t, s, strings.Join(words[i:min(i+api.MaxWrites, len(words))], " "), s.Status().Next)
	}
}

// TestRoomForAnImage: up to the brim, and one byte more.
func TestRoomForAnImage(t *testing.T) {
	for _, size := range []int{api.MaxFile - 1, api.MaxFile, api.MaxFile + 1, api.MaxFile + 2, 2 * api.MaxFile} {
		d := pavilion.NewDisk()
		s := opened(t, d, 4)
		fillImage(t, s, size)
		n := begun(t, s)
		before, left := s.Status(), filesOf(t, d)
		if size <= api.MaxFile {
			checkpoints(t, s)
			if text := read(t, d, 5); len(text) != size {
				t.Errorf("P15: the image has %d bytes, want %d", len(text), size)
			}
			continue
		}
		for range 2 {
			taken := turnsTaken(t, d, func() { wants(t, "P15: Checkpoint without room", s.Checkpoint(), api.ErrFull) })
			if taken != [api.Files]int{} {
				t.Errorf("P15: a Checkpoint without room took the turns %v", taken)
			}
			if x := s.Status(); x != before {
				t.Errorf("P15: a Checkpoint without room left %+v, want %+v", x, before)
			}
		}
		holdsAll(t, "P15: without room", d, left)
		writes(t, s, n, "a=1")
		commits(t, s, n, before.Next)
		s = opened(t, d, 4)
		if x := s.Status(); x.Versions != before.Versions+1 {
			t.Errorf("P15: behind a Checkpoint without room there are %d versions, want %d", x.Versions, before.Versions+1)
		}
	}
}

// TestRoomComesWithDeletions: what is dead takes no room in an image, pruned or not; nor does what was refused take a generation.
func TestRoomComesWithDeletions(t *testing.T) {
	for _, prune := range []bool{false, true} {
		d := pavilion.NewDisk()
		s := opened(t, d, 4)
		fillImage(t, s, api.MaxFile+1)
		wants(t, "P15: Checkpoint without room", s.Checkpoint(), api.ErrFull)
		found, _ := s.Get(begun(t, s), "key10001")
		does(t, s, "key10001-", s.Status().Next)
		if prune {
			s.Prune()
		}
		checkpoints(t, s)
		size := api.MaxFile + 1 - len(record(api.Item, 1, "key10001="+found[0].Value))
		if text := read(t, d, 5); len(text) != size || !strings.HasPrefix(text, spell(api.Record{Kind: api.Image, Time: s.Status().Last, Generation: 1})) {
			t.Errorf("P15: behind a deletion the image has %d bytes, want %d: %x", len(text), size, text)
		}
	}
}

// TestTheLastGeneration: which is told ahead of a lack of room, and behind the end of the store.
func TestTheLastGeneration(t *testing.T) {
	for f := api.Images; f < api.Files; f++ {
		var texts [api.Files]string
		texts[f] = imageText(1, api.MaxTime-1, record(api.Item, 1, "a=1"))
		d := disk7(t, texts)
		s := opened(t, d, 4)
		checkpoints(t, s)
		holds(t, d, 11-f, imageText(1, api.MaxTime, record(api.Item, 1, "a=1")))
		for _, again := range []bool{false, true} {
			if again {
				s = opened(t, d, 4)
			}
			before, left := s.Status(), filesOf(t, d)
			taken := turnsTaken(t, d, func() { wants(t, "P15: Checkpoint behind the last generation", s.Checkpoint(), api.ErrSpent) })
			if x := s.Status(); taken != [api.Files]int{} || x != before {
				t.Errorf("P15: a Checkpoint behind the last generation took the turns %v, and left %+v", taken, x)
			}
			holdsAll(t, "P15: behind the last generation", d, left)
			does(t, s, "b=1", before.Next)
		}
		fillImage(t, s, 2*api.MaxFile)
		wants(t, "P15: Checkpoint behind the last generation, without room", s.Checkpoint(), api.ErrSpent)
		d.Crash(0, "")
		wants(t, "P15: Checkpoint of a store that is over", s.Checkpoint(), api.ErrOver)
	}
}

// TestCheckpointAtTheLastTime: no time is left for a transaction, which an image does not need.
func TestCheckpointAtTheLastTime(t *testing.T) {
	d := disk7(t, [api.Files]string{5: imageText(api.MaxTime-1, 3)})
	s := opened(t, d, 1)
	does(t, s, "a=1", api.MaxTime)
	checkpoints(t, s)
	holds(t, d, 6, imageText(api.MaxTime, 4, record(api.Item, api.MaxTime, "a=1")))
	isAt(t, s, api.MaxTime, api.MaxTime+1, api.MaxTime, 0, 1)
	s = opened(t, d, 1)
	isAt(t, s, api.MaxTime, api.MaxTime+1, api.MaxTime, 0, 1)
	n := begun(t, s)
	writes(t, s, n, "a=2")
	refuses(t, s, n, api.ErrSpent)
	checkpoints(t, s)
	has(t, opened(t, d, 1), "a=1")
}

// TestCheckpointMakesRoom: for as much as at first.
func TestCheckpointMakesRoom(t *testing.T) {
	for text, size := range map[string]int{"a=0123456789abcdef": len(record(api.One, 1, "a=0123456789abcdef")), "a=1 b=1": len(record(api.Part, 1, "a=1"))} {
		for _, again := range []bool{false, true} {
			d := pavilion.NewDisk()
			s := opened(t, d, 2)
			time := 1
			for range 3 {
				for range api.MaxFile / size {
					does(t, s, text, time)
					time++
				}
				n := begun(t, s)
				writes(t, s, n, text)
				refuses(t, s, n, api.ErrFull)
				checkpoints(t, s)
				if again {
					s = opened(t, d, 2)
				} else {
					wants(t, "P13: Abort", s.Abort(n), api.OK)
				}
			}
		}
	}
}

// TestCheckpointMakesRoomInTheBook: the transaction that found none may end now.
func TestCheckpointMakesRoomInTheBook(t *testing.T) {
	s := opened(t, pavilion.NewDisk(), 4)
	text, next := fillBook(t, s)
	n := begun(t, s)
	writes(t, s, n, text)
	refuses(t, s, n, api.ErrFull)
	checkpoints(t, s)
	commits(t, s, n, next)
}

// TestNextBehindACheckpoint: a time that came to nothing stays spent as long as the store or a file knows of it.
func TestNextBehindACheckpoint(t *testing.T) {
	for _, cut := range []bool{true, false} {
		d := pavilion.NewDisk()
		s := opened(t, d, 2)
		does(t, s, "a=1 b=1", 1)
		n := begun(t, s)
		writes(t, s, n, "a=2 b=2")
		wants(t, "P8: Trouble", d.Trouble(api.Book, 1), api.OK)
		refuses(t, s, n, api.ErrDevice)
		s = opened(t, d, 2)
		isAt(t, s, 1, 3, 1, 0, 2)
		if !cut {
			wants(t, "P8: Trouble", d.Trouble(1, 1), api.OK)
			wants(t, "P15: Checkpoint", s.Checkpoint(), api.ErrDevice)
			s = opened(t, d, 2)
			// The image is whole, and a log has the part of time 2 still.
			isAt(t, s, 1, 3, 1, 0, 2)
			does(t, s, "a=3", 3)
			continue
		}
		checkpoints(t, s)
		isAt(t, s, 1, 3, 1, 0, 2)
		does(t, s, "a=3 b=3", 3)
		checkpoints(t, s)
		s = opened(t, d, 2)
		isAt(t, s, 3, 4, 3, 0, 2)
		// One that fails again, and of which no file knows behind the Checkpoint.
		n = begun(t, s)
		writes(t, s, n, "a=4 b=4")
		wants(t, "P8: Trouble", d.Trouble(api.Book, 1), api.OK)
		refuses(t, s, n, api.ErrDevice)
		s = opened(t, d, 2)
		isAt(t, s, 3, 5, 3, 0, 2)
		checkpoints(t, s)
		s = opened(t, d, 2)
		isAt(t, s, 3, 4, 3, 0, 2)
		has(t, s, "a=3 b=3")
	}
}
