package pavilion_test

import (
	"encoding/hex"
	"hash/crc32"
	"math"
	"math/big"
	"reflect"
	"strings"
	"testing"

	"pavilion/api"
	"pavilion/pavilion"
)

// unhex: the bytes of the document's examples.
func unhex(t *testing.T, s string) string {
	t.Helper()
	b, err := hex.DecodeString(strings.ReplaceAll(s, " ", ""))
	if err != nil {
		t.Fatal(err)
	}
	return string(b)
}

// shardByBig works P3 out without any wrap-round.
func shardByBig(key string, shards int) int {
	h := new(big.Int)
	for _, b := range []byte(key) {
		h.Mul(h, big.NewInt(31))
		h.Add(h, big.NewInt(int64(b)))
		h.Mod(h, big.NewInt(1<<32))
	}
	return int(h.Mod(h, big.NewInt(int64(shards))).Int64())
}

func TestShardExamples(t *testing.T) {
	for _, c := range []struct {
		key          string
		shards, want int
	}{{"a", 2, 1}, {"b", 2, 0}, {"ab", 4, 1}, {"a", 1, 0}} {
		if n, e := pavilion.Shard(c.key, c.shards); n != c.want || e != api.OK {
			t.Errorf("P3: Shard(%q, %d) = %d, %d, want %d", c.key, c.shards, n, e, c.want)
		}
	}
}

func TestShardOfKeys(t *testing.T) {
	for b := range 256 {
		for size := 1; size <= api.MaxKey; size++ {
			key := strings.Repeat(string([]byte{byte(b)}), size-1) + "\x80"
			for shards := 1; shards <= api.MaxShards; shards++ {
				want := shardByBig(key, shards)
				if n, e := pavilion.Shard(key, shards); n != want || e != api.OK {
					t.Fatalf("P3: Shard(%q, %d) = %d, %d, want %d", key, shards, n, e, want)
				}
			}
		}
	}
}

func TestShardRefuses(t *testing.T) {
	for _, c := range []struct {
		key    string
		shards int
		want   api.Errno
	}{
		{"a", 0, api.ErrArg}, {"a", -1, api.ErrArg}, {"a", api.MaxShards + 1, api.ErrArg}, {"a", math.MaxInt, api.ErrArg}, {"a", math.MinInt, api.ErrArg}, {"a", 1 << 32, api.ErrArg}, {"a", 1<<32 + 1, api.ErrArg},
		{"", 1, api.ErrKey}, {"123456789", api.MaxShards, api.ErrKey}, {strings.Repeat("k", 257), 3, api.ErrKey},
		{"", 0, api.ErrArg}, {"123456789", 5, api.ErrArg},
	} {
		if n, e := pavilion.Shard(c.key, c.shards); n != 0 || e != c.want {
			t.Errorf("P3: Shard(%q, %d) = %d, %d, want 0, %d", c.key, c.shards, n, e, c.want)
		}
	}
}

func TestSum(t *testing.T) {
	if v := pavilion.Sum("123456789"); v != 3421780262 {
		t.Errorf("P4: Sum of the example = %d", v)
	}
	texts := []string{"", "\x00", "\x00\x00\x00\x00", "\xff\xff\xff\xff", "Zoë", strings.Repeat("pavilion", 1<<15)}
	for b := range 256 {
		texts = append(texts, string([]byte{byte(b)}), "p"+string([]byte{byte(b), byte(b)}))
	}
	for _, s := range texts {
		if v := pavilion.Sum(s); v != int(crc32.ChecksumIEEE([]byte(s))) {
			t.Errorf("P4: Sum of %d bytes, %.8q = %x", len(s), s, v)
		}
	}
}

// exampleFrames: the records of the document's examples, and their frames.
func exampleFrames(t *testing.T) map[string]api.Record {
	x := []api.Write{{Key: "a", Value: "x"}}
	return map[string]api.Record{
		unhex(t, "70 01 08 0001 01 00 01 61 01 78 1af8fc15"): {Kind: api.One, Time: 1, Writes: x},
		unhex(t, "70 02 08 0001 01 00 01 61 01 78 f1cf4716"): {Kind: api.Part, Time: 1, Writes: x},
		unhex(t, "70 01 07 0002 01 01 01 61 00 bd4d2fbb"):    {Kind: api.One, Time: 2, Writes: []api.Write{{Key: "a", Dead: true}}},
		unhex(t, "70 03 02 0001 59c65cc4"):                   {Kind: api.Done, Time: 1},
		unhex(t, "70 04 04 0002 0001 6b960f7b"):              {Kind: api.Image, Time: 2, Generation: 1},
		unhex(t, "70 05 08 0001 01 00 01 61 01 78 13135c6f"): {Kind: api.Item, Time: 1, Writes: x},
		unhex(t, "70 06 00 fdea16c4"):                        {Kind: api.Whole},
	}
}

func TestExampleFrames(t *testing.T) {
	for want, r := range exampleFrames(t) {
		if s, e := pavilion.Encode(r); s != want || e != api.OK {
			t.Errorf("P5: Encode(%v) = %x, %d, want %x", r, s, e, want)
		}
		if l, n := pavilion.Scan(want); n != len(want) || !sameRecords(l, []api.Record{r}) {
			t.Errorf("P6: Scan(%x) = %v, %d, want %v", want, l, n, r)
		}
	}
}

// sameRecords takes a list of no writes for what it is, nil or not.
func sameRecords(a, b []api.Record) bool {
	if len(a) != len(b) {
		return false
	}
	for i := range a {
		x, y := a[i], b[i]
		if len(x.Writes) == 0 && len(y.Writes) == 0 {
			x.Writes, y.Writes = nil, nil
		}
		if !reflect.DeepEqual(x, y) {
			return false
		}
	}
	return true
}

// longest: as many writes as there may be, all as long as they may be.
func longest() []api.Write {
	var l []api.Write
	for i := range api.MaxWrites {
		l = append(l, api.Write{Key: "longkey" + string(rune('0'+i)), Value: "0123456789abcdef"})
	}
	return l
}

// edgeRecords: records whose numbers and texts are the least and the greatest that may be.
func edgeRecords() []api.Record {
	var l []api.Record
	lists := [][]api.Write{
		{{Key: "a"}}, {{Key: "\x00", Dead: true}}, {{Key: "\xff\xff\xff\xff\xff\xff\xff\xff", Value: "\x00"}},
		{{Key: "a"}, {Key: "a\x00"}, {Key: "ab", Dead: true}, {Key: "b", Value: "p"}}, {{Key: "\x7f"}, {Key: "\x80"}}, longest(),
	}
	for _, time := range []int{1, 255, 256, 258, api.MaxTime} {
		for _, w := range lists {
			l = append(l, api.Record{Kind: api.One, Time: time, Writes: w}, api.Record{Kind: api.Part, Time: time, Writes: w})
		}
		l = append(l,
			api.Record{Kind: api.Item, Time: time, Writes: []api.Write{{Key: "12345678", Value: "0123456789abcdef"}}},
			api.Record{Kind: api.Item, Time: time, Writes: []api.Write{{Key: "\x00"}}},
			api.Record{Kind: api.Done, Time: time}, api.Record{Kind: api.Done, Time: time, Writes: []api.Write{}},
			api.Record{Kind: api.Image, Time: 0, Generation: time}, api.Record{Kind: api.Image, Time: time, Generation: 1}, api.Record{Kind: api.Image, Time: api.MaxTime, Generation: time})
	}
	return append(l, api.Record{Kind: api.Whole}, api.Record{Kind: api.Whole, Writes: []api.Write{}})
}

// spell writes a frame as P5 tells it, without a look at whether it is a record's.
func spell(r api.Record) string {
	p := []byte{}
	if r.Kind != api.Whole {
		p = append(p, byte(r.Time/256), byte(r.Time%256))
	}
	if r.Kind == api.Image {
		p = append(p, byte(r.Generation/256), byte(r.Generation%256))
	}
	if r.Kind == api.One || r.Kind == api.Part || r.Kind == api.Item {
		p = append(p, byte(len(r.Writes)))
		for _, w := range r.Writes {
			flag := byte(0)
			if w.Dead {
				flag = 1
			}
			p = append(append(p, flag, byte(len(w.Key))), w.Key...)
			p = append(append(p, byte(len(w.Value))), w.Value...)
		}
	}
	return seal(r.Kind, string(p))
}

// edgeText: the frames of all edgeRecords.
func edgeText() string {
	s := ""
	for _, r := range edgeRecords() {
		s += spell(r)
	}
	return s
}

// seal makes a frame of any kind and payload, with a right sum.
func seal(kind int, payload string) string {
	s := "p" + string([]byte{byte(kind), byte(len(payload))}) + payload
	c := crc32.ChecksumIEEE([]byte(s))
	return s + string([]byte{byte(c >> 24), byte(c >> 16), byte(c >> 8), byte(c)})
}

func TestEncodeEdges(t *testing.T) {
	for _, r := range edgeRecords() {
		want := spell(r)
		if s, e := pavilion.Encode(r); s != want || e != api.OK {
			t.Errorf("P5: Encode(%v) = %x, %d, want %x", r, s, e, want)
		}
	}
	s, _ := pavilion.Encode(api.Record{Kind: api.One, Time: 1, Writes: longest()})
	if len(s) != 172 || s[2] != 165 || int(s[2]) > api.MaxPayload {
		t.Errorf("P5: the longest frame has %d bytes", len(s))
	}
}

// wrongWrites: lists that are no WRITES.
func wrongWrites() [][]api.Write {
	return [][]api.Write{
		nil, {}, make([]api.Write, 1), append(longest(), api.Write{Key: "z"}), make([]api.Write, 256), make([]api.Write, 257),
		{{Key: "123456789"}}, {{Key: "a", Value: "0123456789abcdefg"}}, {{Key: "a", Dead: true, Value: "x"}}, {{Key: "", Dead: true}},
		{{Key: "a", Value: strings.Repeat("v", 256)}}, {{Key: strings.Repeat("k", 257)}},
		{{Key: "a"}, {Key: "a"}}, {{Key: "b"}, {Key: "a"}}, {{Key: "ab"}, {Key: "a"}}, {{Key: "a"}, {Key: "c"}, {Key: "b"}}, {{Key: "a"}, {Key: "b"}, {Key: "b", Dead: true}},
		{{Key: "\x80"}, {Key: "\x7f"}}, {{Key: ""}, {Key: "a"}}, {{Key: "a"}, {Key: "123456789"}}, {{Key: "a"}, {Key: "b", Dead: true, Value: "x"}},
	}
}

// wrongRecords: what comes near to a record and is none.
func wrongRecords() []api.Record {
	w := []api.Write{{Key: "a", Value: "x"}}
	var l []api.Record
	for _, kind := range []int{0, -1, 7, 256 + api.One, 256 + api.Whole, math.MinInt, math.MaxInt} {
		l = append(l, api.Record{Kind: kind}, api.Record{Kind: kind, Time: 1}, api.Record{Kind: kind, Time: 1, Writes: w}, api.Record{Kind: kind, Time: 1, Generation: 1})
	}
	for _, n := range []int{math.MinInt, -65535, -1, api.MaxTime + 1, 1<<16 + 1, 1<<32 + 1, math.MaxInt} {
		l = append(l, timed(n, w)...)
		l = append(l, api.Record{Kind: api.Image, Time: n, Generation: 1}, api.Record{Kind: api.Image, Time: 1, Generation: n}, api.Record{Kind: api.Whole, Time: n})
	}
	l = append(l, timed(0, w)...)
	for _, wrong := range wrongWrites() {
		l = append(l, api.Record{Kind: api.One, Time: 1, Writes: wrong}, api.Record{Kind: api.Part, Time: 1, Writes: wrong}, api.Record{Kind: api.Item, Time: 1, Writes: wrong})
	}
	for _, g := range []int{1, -1, math.MaxInt} {
		l = append(l, api.Record{Kind: api.One, Time: 1, Generation: g, Writes: w}, api.Record{Kind: api.Part, Time: 1, Generation: g, Writes: w}, api.Record{Kind: api.Item, Time: 1, Generation: g, Writes: w}, api.Record{Kind: api.Done, Time: 1, Generation: g}, api.Record{Kind: api.Whole, Generation: g})
	}
	return append(l,
		api.Record{Kind: api.Item, Time: 1, Writes: []api.Write{{Key: "a"}, {Key: "b"}}}, api.Record{Kind: api.Item, Time: 1, Writes: []api.Write{{Key: "a", Dead: true}}},
		api.Record{Kind: api.Done, Time: 1, Writes: w}, api.Record{Kind: api.Image, Time: 1, Generation: 1, Writes: w}, api.Record{Kind: api.Whole, Writes: w}, api.Record{Kind: api.Whole, Time: 1},
		api.Record{Kind: api.Image, Time: 1}, api.Record{Kind: api.Image})
}

// timed: a record of each kind whose Time begins with 1.
func timed(time int, w []api.Write) []api.Record {
	return []api.Record{{Kind: api.One, Time: time, Writes: w}, {Kind: api.Part, Time: time, Writes: w}, {Kind: api.Item, Time: time, Writes: w}, {Kind: api.Done, Time: time}}
}

func TestEncodeRefuses(t *testing.T) {
	for i, r := range wrongRecords() {
		if s, e := pavilion.Encode(r); s != "" || e != api.ErrArg {
			t.Errorf("P5: %d: Encode(%v) = %x, %d, want ErrArg", i, r, s, e)
		}
	}
}

func TestScanTellsWhatEncodeTook(t *testing.T) {
	all, want := edgeText(), edgeRecords()
	l, n := pavilion.Scan(all)
	if n != len(all) || !sameRecords(l, want) {
		t.Errorf("P6: Scan of all edges = %d records, %d bytes, want %d, %d", len(l), n, len(want), len(all))
	}
}

func TestScanOfNothing(t *testing.T) {
	for _, s := range []string{"", "p", "pp", "ppp", "\x00", strings.Repeat("p", 5000), strings.Repeat("\x00", 5000), "p\x06\x00", "p\x06\x00\xfd\xea\x16"} {
		if l, n := pavilion.Scan(s); len(l) != 0 || n != 0 {
			t.Errorf("P6: Scan(%.20q) = %v, %d, want none", s, l, n)
		}
	}
}

func TestScanStopsWithinAFrame(t *testing.T) {
	done := spell(api.Record{Kind: api.Done, Time: 1})
	for _, r := range edgeRecords() {
		s := spell(r)
		for cut := range len(s) {
			if l, n := pavilion.Scan(done + s[:cut]); len(l) != 1 || n != len(done) {
				t.Fatalf("P6: Scan of %v cut to %d bytes = %v, %d", r, cut, l, n)
			}
		}
	}
}

func TestScanStopsAtAWrongBit(t *testing.T) {
	whole := spell(api.Record{Kind: api.Whole})
	for s := range exampleFrames(t) {
		for bit := range 8 * len(s) {
			b := []byte(s)
			b[bit/8] ^= 1 << (bit % 8)
			// A frame stands behind it, which nothing may lead to.
			if l, n := pavilion.Scan(whole + string(b) + whole); len(l) != 1 || n != len(whole) {
				t.Fatalf("P6: Scan of %x with a wrong bit %d = %v, %d", s, bit, l, n)
			}
		}
	}
}

func TestScanGoesOnAheadOfWrongBytes(t *testing.T) {
	for s, r := range exampleFrames(t) {
		for _, junk := range []string{"", "x", "p", s[1:], s[:len(s)-1], "\x00" + s, seal(9, "")} {
			if l, n := pavilion.Scan(s + s + junk); n != 2*len(s) || !sameRecords(l, []api.Record{r, r}) {
				t.Errorf("P6: Scan(%x twice, %x) = %v, %d", s, junk, l, n)
			}
		}
	}
}

// TestScanTakesNoWrongRecord: the sums are right here; what they stand behind is no record.
func TestScanTakesNoWrongRecord(t *testing.T) {
	for _, r := range wrongRecords() {
		s := spell(r)
		if l, n := pavilion.Scan(s); len(l) != 0 || n != 0 {
			if made, e := pavilion.Encode(l[0]); e != api.OK || made != s[:n] {
				t.Errorf("P6: Scan(%x) = %v, %d, which is no record's frame", s, l, n)
			}
		}
	}
}

func TestScanTakesNoOtherPayload(t *testing.T) {
	one := "\x00\x01\x01\x00\x01a\x01x"
	for i, s := range []string{
		seal(1, ""), seal(1, "\x00"), seal(1, "\x00\x01"), seal(1, "\x00\x01\x00"), seal(1, "\x00\x00"+one[2:]), seal(1, one+"\x00"), seal(1, one[:7]), seal(1, one[:6]), seal(1, one[:5]), seal(1, one[:4]),
		seal(1, "\x00\x01\x02"+one[3:]), seal(1, "\x00\x01\xff"+one[3:]), seal(1, "\x00\x01\x01\x02\x01a\x00"), seal(1, "\x00\x01\x01\xff\x01a\x00"), seal(1, "\x00\x01\x01\x01\x01a\x01x"), seal(1, "\x00\x01\x01\x00\x00\x00"), seal(1, "\x00\x01\x01\x00\x09123456789\x00"), seal(1, "\x00\x01\x01\x00\x01a\x110123456789abcdefg"),
		seal(2, "\x00\x01\x02\x00\x01b\x00\x00\x01a\x00"), seal(2, "\x00\x01\x02\x00\x01a\x00\x00\x01a\x00"), seal(2, "\x00\x01\x07\x00\x01a\x00\x00\x01b\x00\x00\x01c\x00\x00\x01d\x00\x00\x01e\x00\x00\x01f\x00\x00\x01g\x00"),
		seal(3, ""), seal(3, "\x01"), seal(3, "\x00\x00"), seal(3, "\x00\x01\x00"), seal(3, one),
		seal(4, ""), seal(4, "\x00\x01"), seal(4, "\x00\x01\x01"), seal(4, "\x00\x01\x00\x00"), seal(4, "\x00\x01\x00\x01\x00"),
		seal(5, ""), seal(5, "\x00\x00"+one[2:]), seal(5, "\x00\x01\x00"), seal(5, "\x00\x01\x01\x01\x01a\x00"), seal(5, "\x00\x01\x02\x00\x01a\x00\x00\x01b\x00"),
		seal(6, "\x00"), seal(6, "\x00\x01"), seal(6, strings.Repeat("\x00", 255)),
		seal(0, ""), seal(7, ""), seal(255, ""), seal(0, one), seal(7, one),
		"P" + seal(6, "")[1:],
	} {
		if l, n := pavilion.Scan(s + seal(6, "")); len(l) != 0 || n != 0 {
			t.Errorf("P6: %d: Scan(%x) = %v, %d, want none", i, s, l, n)
		}
	}
}

// sound tells by P5's words whether a payload is one of a record of this kind.
func sound(kind int, p string) bool {
	switch kind {
	case api.Whole:
		return p == ""
	case api.Done:
		return len(p) == 2 && p != "\x00\x00"
	case api.Image:
		return len(p) == 4 && p[2:] != "\x00\x00"
	case api.One, api.Part, api.Item:
		return len(p) > 3 && p[:2] != "\x00\x00" && soundWrites(kind, int(p[2]), p[3:])
	}
	return false
}

func soundWrites(kind, count int, p string) bool {
	if count < 1 || count > 6 || kind == api.Item && (count > 1 || p[0] == 1) {
		return false
	}
	last := ""
	for range count {
		if len(p) < 2 || p[0] > 1 || p[1] < 1 || p[1] > 8 || len(p) < int(p[1])+3 {
			return false
		}
		dead, key, size := p[0] == 1, p[2:2+p[1]], int(p[2+p[1]])
		p = p[3+p[1]:]
		if key <= last || size > 16 || size > len(p) || dead && size > 0 {
			return false
		}
		last, p = key, p[size:]
	}
	return p == ""
}

// holdAgainst holds what Scan tells of one sealed payload against what P5 says of it.
func holdAgainst(t *testing.T, kind int, payload string) {
	t.Helper()
	s := seal(kind, payload)
	l, n := pavilion.Scan(s)
	if !sound(kind, payload) {
		if len(l) != 0 || n != 0 {
			t.Fatalf("P6: Scan(%x) = %v, %d, want none", s, l, n)
		}
		return
	}
	if len(l) != 1 || n != len(s) || spell(l[0]) != s {
		t.Fatalf("P6: Scan(%x) = %v, %d, want its record", s, l, n)
	}
}

// manyPayloads: sound ones of all shapes, to be changed a little.
func manyPayloads(t *testing.T) []string {
	l := []string{"", "\x00\x01\x02\x01\x01a\x00\x00\x02ab\x02xy", "\x00\x01\x03\x00\x01a\x00\x00\x01b\x00\x01\x01c\x00"}
	for s := range exampleFrames(t) {
		l = append(l, s[3:len(s)-4])
	}
	return l
}

func TestScanOfChangedPayloads(t *testing.T) {
	for _, p := range manyPayloads(t) {
		for kind := range 8 {
			holdAgainst(t, kind, p)
			for at := range len(p) {
				holdAgainst(t, kind, p[:at])
				holdAgainst(t, kind, p[:at]+p[at+1:])
				for b := range 256 {
					holdAgainst(t, kind, p[:at]+string([]byte{byte(b)})+p[at+1:])
					holdAgainst(t, kind, p[:at]+string([]byte{byte(b)})+p[at:])
				}
			}
		}
	}
}

func FuzzScan(f *testing.F) {
	f.Add(1, "\x00\x01\x01\x00\x01a\x01x")
	f.Add(5, "\x00\x01\x01\x00\x01a\x01x")
	f.Add(3, "\x00\x01")
	f.Add(4, "\x00\x00\x00\x01")
	f.Add(6, "")
	f.Fuzz(func(t *testing.T, kind int, payload string) {
		if kind >= 0 && kind < 256 && len(payload) < 256 {
			holdAgainst(t, kind, payload)
		}
		l, n := pavilion.Scan(payload)
		again := ""
		for _, r := range l {
			again += spell(r)
		}
		if again != payload[:n] {
			t.Errorf("P6: Scan(%x) = %v, %d", payload, l, n)
		}
	})
}
