package pavilion_test

import (
	"maps"
	"slices"
	"strings"
	"testing"

	"pavilion/api"
	"pavilion/pavilion"
)

// plainWrite is a write and its time.
type plainWrite struct {
	time int
	api.Write
}

// plainOpen has all that a transaction wrote, in the order in which it did.
type plainOpen struct {
	snapshot int
	writes   []api.Write
}

// plainStore keeps every write in the order in which it came, and looks through all of them each time; it does one thing after the other.
type plainStore struct {
	files  *[api.Files]plainFile
	config api.Config
	sizes  [api.Files]int
	list   []plainWrite
	image  int // the file of the image that counts, and its generation
	images int
	last   int
	next   int
	begun  int
	open   map[int]*plainOpen
	over   bool
}

func plainStoreOf(files *[api.Files]plainFile, c api.Config) (*plainStore, api.Errno) {
	if c.Shards < 1 || c.Shards > 4 || c.Last < 1 || c.Last > 65535 {
		return nil, api.ErrArg
	}
	var texts [api.Files]string
	for f := range files {
		if files[f].sync() != api.OK {
			return nil, api.ErrDevice
		}
		text, e := files[f].read()
		if e != api.OK {
			return nil, api.ErrDevice
		}
		texts[f] = text
	}
	s := &plainStore{files: files, config: c, open: map[int]*plainOpen{}}
	var records [api.Files][]api.Record
	for f := range files {
		l, n := pavilion.Scan(texts[f])
		records[f] = l
		if f >= c.Shards && f != 4 {
			continue
		}
		if n < len(texts[f]) && files[f].cut(n) != api.OK {
			return nil, api.ErrDevice
		}
		s.sizes[f] = n
		for _, r := range l {
			s.next = max(s.next, r.Time)
		}
	}
	s.recall(records)
	s.next = max(s.next, s.last) + 1
	return s, api.OK
}

// kinds spells a file's records, a letter for each.
func kinds(l []api.Record) string {
	text := ""
	for _, r := range l {
		text += " opdiew"[r.Kind : r.Kind+1]
	}
	return text
}

func (s *plainStore) recall(records [api.Files][]api.Record) {
	time := 0
	var items []api.Record
	s.image = 6
	for _, f := range []int{6, 5} {
		l := records[f]
		shape := kinds(l)
		if !strings.HasPrefix(shape, "i") || shape != "i"+strings.Repeat("e", max(len(shape), 2)-2)+"w" {
			continue
		}
		// File 5 comes last, and wins if the generations are the same.
		if l[0].Generation >= s.images {
			time, items = l[0].Time, l
			s.image, s.images = f, l[0].Generation
		}
	}
	s.last = time
	for _, r := range items {
		s.learn(r)
	}
	for f := range s.config.Shards {
		for _, r := range records[f] {
			decided := r.Kind == api.Part && slices.ContainsFunc(records[4], func(b api.Record) bool { return b.Kind == api.Done && b.Time == r.Time })
			if r.Time > time && (r.Kind == api.One || decided) {
				s.learn(r)
			}
		}
	}
}

func (s *plainStore) learn(r api.Record) {
	for _, w := range r.Writes {
		s.list = append(s.list, plainWrite{r.Time, w})
		s.last = max(s.last, r.Time)
	}
}

// sees tells all that a transaction sees.
func (s *plainStore) sees(x *plainOpen) map[string]string {
	at, all := map[string]int{}, map[string]string{}
	lay := func(time int, w api.Write) {
		if time < at[w.Key] {
			return
		}
		at[w.Key] = time
		delete(all, w.Key)
		if !w.Dead {
			all[w.Key] = w.Value
		}
	}
	for _, v := range s.list {
		if v.time <= x.snapshot {
			lay(v.time, v.Write)
		}
	}
	for _, w := range x.writes {
		lay(1<<20, w)
	}
	return all
}

// written tells each key once, with what was written to it last, by rising keys.
func (x *plainOpen) written() []api.Write {
	last := map[string]api.Write{}
	var names []string
	for _, w := range x.writes {
		if _, there := last[w.Key]; !there {
			names = append(names, w.Key)
		}
		last[w.Key] = w
	}
	slices.Sort(names)
	var l []api.Write
	for _, k := range names {
		l = append(l, last[k])
	}
	return l
}

func (s *plainStore) status() api.Status {
	x := api.Status{Last: s.last, Next: s.next, Water: s.last, Open: len(s.open)}
	for _, o := range s.open {
		if o.snapshot < x.Water {
			x.Water = o.snapshot
		}
	}
	seen := map[string]bool{}
	for _, v := range s.list {
		seen[string(rune(v.time))+v.Key] = true
	}
	x.Versions = len(seen)
	return x
}

func (s *plainStore) find(n int) (*plainOpen, api.Errno) {
	if s.over {
		return nil, api.ErrOver
	}
	if s.open[n] == nil {
		return nil, api.ErrNone
	}
	return s.open[n], api.OK
}

func (s *plainStore) begin() (int, api.Errno) {
	if s.over {
		return 0, api.ErrOver
	}
	if len(s.open) == 8 {
		return 0, api.ErrMany
	}
	s.open[s.begun] = &plainOpen{snapshot: s.last}
	s.begun++
	return s.begun - 1, api.OK
}

func (s *plainStore) write(n int, l []api.Write) api.Errno {
	x, e := s.find(n)
	if e != api.OK {
		return e
	}
	for _, w := range l {
		if len(w.Key) == 0 || len(w.Key) > 8 {
			return api.ErrKey
		}
	}
	for _, w := range l {
		if len(w.Value) > 16 {
			return api.ErrValue
		}
	}
	y := plainOpen{x.snapshot, slices.Concat(x.writes, l)}
	if len(y.written()) > 6 {
		return api.ErrMany
	}
	*x = y
	return api.OK
}

func (s *plainStore) get(n int, names []string) ([]api.Found, api.Errno) {
	x, e := s.find(n)
	if e != api.OK {
		return nil, e
	}
	all := s.sees(x)
	var l []api.Found
	for _, k := range names {
		if len(k) == 0 || len(k) > 8 {
			return nil, api.ErrKey
		}
		value, there := all[k]
		l = append(l, api.Found{There: there, Value: value})
	}
	return l, api.OK
}

func (s *plainStore) scan(n int, from, to string, most int) ([]api.Pair, api.Errno) {
	x, e := s.find(n)
	if e != api.OK {
		return nil, e
	}
	if most < 0 {
		return nil, api.ErrArg
	}
	var l []api.Pair
	for k, v := range s.sees(x) {
		if k >= from && k < to {
			l = append(l, api.Pair{Key: k, Value: v})
		}
	}
	slices.SortFunc(l, func(a, b api.Pair) int { return strings.Compare(a.Key, b.Key) })
	return l[:min(most, len(l))], api.OK
}

func (s *plainStore) abort(n int) api.Errno {
	_, e := s.find(n)
	if e == api.OK {
		delete(s.open, n)
	}
	return e
}

func (s *plainStore) commit(n int) (int, api.Errno) {
	x, e := s.find(n)
	if e != api.OK {
		return 0, e
	}
	l := x.written()
	if len(l) == 0 {
		delete(s.open, n)
		return x.snapshot, api.OK
	}
	for _, v := range s.list {
		if v.time > x.snapshot && slices.ContainsFunc(l, func(w api.Write) bool { return w.Key == v.Key }) {
			delete(s.open, n)
			return 0, api.ErrConflict
		}
	}
	if s.next > s.config.Last {
		return 0, api.ErrSpent
	}
	texts := s.texts(l)
	for f, text := range texts {
		if s.sizes[f]+len(text) > 2000 {
			return 0, api.ErrFull
		}
	}
	s.next++
	if !s.lay(texts) {
		s.over = true
		return 0, api.ErrDevice
	}
	for f, text := range texts {
		s.sizes[f] += len(text)
	}
	s.learn(api.Record{Time: s.next - 1, Writes: l})
	delete(s.open, n)
	return s.next - 1, api.OK
}

func (s *plainStore) texts(l []api.Write) map[int]string {
	parts := map[int][]api.Write{}
	for _, w := range l {
		f := shardByBig(w.Key, s.config.Shards)
		parts[f] = append(parts[f], w)
	}
	texts := map[int]string{}
	kind := api.One
	if len(parts) > 1 {
		kind = api.Part
		texts[4] = spell(api.Record{Kind: api.Done, Time: s.next})
	}
	for f, part := range parts {
		texts[f] = spell(api.Record{Kind: kind, Time: s.next, Writes: part})
	}
	return texts
}

func (s *plainStore) lay(texts map[int]string) bool {
	good := true
	for f := range 5 {
		if texts[f] == "" || f == 4 && !good {
			continue
		}
		if s.files[f].lay(texts[f]) != api.OK || s.files[f].sync() != api.OK {
			good = false
		}
	}
	return good
}

// newest tells, of each key, the time of its newest version up to a time.
func (s *plainStore) newest(time int) map[string]int {
	at := map[string]int{}
	for _, v := range s.list {
		if v.time <= time {
			at[v.Key] = max(at[v.Key], v.time)
		}
	}
	return at
}

func (s *plainStore) checkpoint() api.Errno {
	if s.over {
		return api.ErrOver
	}
	if s.images == 65535 {
		return api.ErrSpent
	}
	var items []string
	at, all := s.newest(s.last), s.sees(&plainOpen{snapshot: s.last})
	for _, k := range slices.Sorted(maps.Keys(all)) {
		items = append(items, spell(api.Record{Kind: api.Item, Time: at[k], Writes: []api.Write{{Key: k, Value: all[k]}}}))
	}
	text := imageText(s.last, s.images+1, items...)
	if len(text) > 2000 {
		return api.ErrFull
	}
	f := map[int]int{5: 6, 6: 5}[s.image]
	s.over = true
	if s.files[f].cut(0) != api.OK || s.files[f].lay(text) != api.OK || s.files[f].sync() != api.OK {
		return api.ErrDevice
	}
	for g := range 5 {
		if (g < s.config.Shards || g == 4) && s.files[g].cut(0) != api.OK {
			return api.ErrDevice
		}
		s.sizes[g] = 0
	}
	s.over = false
	s.image = f
	s.images++
	return api.OK
}

func (s *plainStore) prune() (int, api.Errno) {
	if s.over {
		return 0, api.ErrOver
	}
	before := s.status()
	at, there := s.newest(before.Water), s.sees(&plainOpen{snapshot: before.Water})
	s.list = slices.DeleteFunc(s.list, func(v plainWrite) bool {
		_, lives := there[v.Key]
		return v.time < at[v.Key] || v.time == at[v.Key] && !lives
	})
	return before.Versions - s.status().Versions, api.OK
}

// pairOfStores is a store and a plain one, each over its own disk, to which the same is done.
type pairOfStores struct {
	acts
	disk   *pavilion.Disk
	plain  [api.Files]plainFile
	stores []*pavilion.Store
	plains []*plainStore
}

func (p *pairOfStores) key() string {
	return []string{"a", "b", "c", "d", "ab", "a\x00", "\xff", "12345678", "a", "b", "c", "e", "f", "g", "", "123456789"}[p.next()%16]
}

// goodKey is one that is refused seldom, so that long lists come through.
func (p *pairOfStores) goodKey() string {
	if p.next() > 250 {
		return p.key()
	}
	return []string{"a", "b", "c", "d", "ab", "12345678", "e"}[p.next()%7]
}

func (p *pairOfStores) value() string {
	v := p.next()
	if v > 250 {
		return strings.Repeat("v", v-240)
	}
	return strings.Repeat("v", v%5) + string(rune('0'+v%10))
}

func (p *pairOfStores) write() api.Write { return api.Write{Key: p.goodKey(), Value: p.value()} }

// which tells a transaction's number: one that may be open, mostly.
func (p *pairOfStores) which() int {
	v := p.next()
	if v > 240 || len(p.plains) == 0 {
		return v - 248
	}
	s := p.plains[len(p.plains)-1]
	var open []int
	for n := range s.open {
		open = append(open, n)
	}
	if len(open) == 0 {
		return s.begun - v%3
	}
	slices.Sort(open)
	return open[v%len(open)]
}

// record tells one that others lay down, of a small time.
func (p *pairOfStores) record(f int) string {
	w := []api.Write{{Key: p.goodKey(), Value: "o"}}
	if p.next()%4 == 0 {
		w[0] = api.Write{Key: w[0].Key, Dead: true}
	}
	time, generation := 1+p.next()%12, 1+p.next()%4
	if f < 4 {
		return spell(api.Record{Kind: 1 + p.next()%2, Time: time, Writes: w})
	}
	if f == 4 {
		return spell(api.Record{Kind: api.Done, Time: time})
	}
	item := ""
	for range p.next() % 3 {
		item += spell(api.Record{Kind: api.Item, Time: 1 + p.next()%12, Writes: []api.Write{{Key: p.goodKey(), Value: "i"}}})
	}
	if p.next() > 240 {
		generation = 65536 - generation
	}
	return imageText(time, generation, item)
}

// othersWrite lays into a file what the store did not: sound frames, frames of any kind, junk, and a great many bytes.
func (p *pairOfStores) othersWrite(t *testing.T) {
	f := p.next() % api.Files
	text := p.record(f)
	switch p.next() % 6 {
	case 0:
		text = p.record(p.next() % api.Files)
	case 1:
		text = text[:p.next()%len(text)]
	case 2:
		text = filler(t, 1800+p.next()%200-len(p.plain[f].bytes)%200)
	}
	if f >= 5 && p.next()%2 == 0 {
		wants(t, "P7: Cut", p.disk.Cut(f, 0), p.plain[f].cut(0))
	}
	wants(t, "P7: Append", p.disk.Append(f, text), p.plain[f].lay(text))
	if p.next()%2 == 0 {
		wants(t, "P7: Sync", p.disk.Sync(f), p.plain[f].sync())
	}
}

func (p *pairOfStores) openBoth(t *testing.T) {
	c := api.Config{Shards: 2 + p.next()%3, Last: 65535}
	switch p.next() % 8 {
	case 0:
		c.Last = p.next() % 20
	case 1:
		c.Shards = p.next() % 6
	}
	s, e := pavilion.Open(p.disk, c)
	x, want := plainStoreOf(&p.plain, c)
	if e != want || (s == nil) != (x == nil) {
		t.Fatalf("P9: Open with %+v = %v, %d, want %d", c, s, e, want)
	}
	if e != api.ErrArg {
		for _, old := range p.plains {
			old.over = true
		}
	}
	if e == api.OK {
		p.stores, p.plains = append(p.stores, s), append(p.plains, x)
	}
}

func (p *pairOfStores) harm(t *testing.T) {
	f, k := p.next()%api.Files, p.next()%4
	switch p.next() % 4 {
	case 0:
		keep, junk := p.next()%40-3, strings.Repeat("J", p.next()%5)
		p.disk.Crash(keep, junk)
		for g := range p.plain {
			p.plain[g].crash(keep, junk)
		}
		for _, old := range p.plains {
			old.over = true
		}
	case 1, 2:
		wants(t, "P8: Trouble", p.disk.Trouble(f, k), api.OK)
		p.plain[f].turns, p.plain[f].fail = 0, k
	case 3:
		n := len(p.plain[f].bytes) / (k + 1)
		wants(t, "P7: Cut", p.disk.Cut(f, n), p.plain[f].cut(n))
	}
}

func (p *pairOfStores) readBoth(t *testing.T, s *pavilion.Store, x *plainStore, n int) {
	if p.next()%2 == 0 {
		names := []string{p.key(), p.goodKey(), p.goodKey()}
		want, e := x.get(n, names)
		if l, got := s.Get(n, names...); !slices.Equal(l, want) || got != e {
			t.Fatalf("P11: Get(%d, %q) = %v, %d, want %v, %d", n, names, l, got, want, e)
		}
		return
	}
	from, to, most := p.key(), p.key(), p.next()%9-1
	if p.next()%2 == 0 {
		from, to = "", behindAll
	}
	want, e := x.scan(n, from, to, most)
	if l, got := s.Scan(n, from, to, most); !slices.Equal(l, want) || got != e {
		t.Fatalf("P11: Scan(%d, %q, %q, %d) = %q, %d, want %q, %d", n, from, to, most, told(l), got, told(want), e)
	}
}

func (p *pairOfStores) writeBoth(t *testing.T, s *pavilion.Store, x *plainStore, n int) {
	var l []api.Write
	for range p.next() % 5 {
		l = append(l, p.write())
	}
	if p.next()%3 == 0 {
		var names []string
		for i := range l {
			names = append(names, l[i].Key)
			l[i] = api.Write{Key: l[i].Key, Dead: true}
		}
		wants(t, "P12: Delete", s.Delete(n, names...), x.write(n, l))
		return
	}
	var l2 []api.Pair
	for _, w := range l {
		l2 = append(l2, api.Pair{Key: w.Key, Value: w.Value})
	}
	wants(t, "P12: Put", s.Put(n, l2...), x.write(n, l))
}

// tidyBoth makes an image, or forgets.
func (p *pairOfStores) tidyBoth(t *testing.T, s *pavilion.Store, x *plainStore) {
	if p.next()%2 == 0 {
		wants(t, "P15: Checkpoint", s.Checkpoint(), x.checkpoint())
		return
	}
	want, e := x.prune()
	if n, got := s.Prune(); n != want || got != e {
		t.Fatalf("P16: Prune() = %d, %d, want %d, %d", n, got, want, e)
	}
}

// actOnStores does one act to both, and holds the answers against each other.
func (p *pairOfStores) actOnStores(t *testing.T) {
	t.Helper()
	kind := p.next() % 32
	if kind == 0 || len(p.stores) == 0 {
		p.openBoth(t)
		return
	}
	i := len(p.stores) - 1
	if p.next() > 250 {
		i = p.next() % len(p.stores)
	}
	s, x, n := p.stores[i], p.plains[i], p.which()
	switch {
	case kind == 1:
		p.harm(t)
	case kind == 2:
		p.othersWrite(t)
	case kind == 3:
		wants(t, "P13: Abort", s.Abort(n), x.abort(n))
	case kind == 4:
		p.tidyBoth(t, s, x)
	case kind < 9:
		want, e := x.begin()
		if n, got := s.Begin(); n != want || got != e {
			t.Fatalf("P10: Begin() = %d, %d, want %d, %d", n, got, want, e)
		}
	case kind < 17:
		p.writeBoth(t, s, x, n)
	case kind < 24:
		want, e := x.commit(n)
		if time, got := s.Commit(n); time != want || got != e {
			t.Fatalf("P13: Commit(%d) = %d, %d, want %d, %d", n, time, got, want, e)
		}
	default:
		p.readBoth(t, s, x, n)
	}
	if got, want := s.Status(), x.status(); got != want {
		t.Fatalf("P17: Status() = %+v, want %+v", got, want)
	}
}

// holdStores does what the bytes tell to a store and to a plain one, and looks at their disks at the end.
func holdStores(t *testing.T, b []byte) {
	t.Helper()
	p := pairOfStores{acts: acts{b}, disk: pavilion.NewDisk()}
	for len(p.rest) > 0 {
		p.actOnStores(t)
	}
	for f := range p.plain {
		want, e := p.plain[f].read()
		if text, got := p.disk.Read(f); text != want || got != e {
			t.Fatalf("P14: file %d holds %x, %d, want %x, %d", f, text, got, want, e)
		}
	}
	p.disk.Crash(3, "J")
	for f := range p.plain {
		p.plain[f].crash(3, "J")
		holds(t, p.disk, f, p.plain[f].text())
	}
}

func TestStoreAgainstAPlainOne(t *testing.T) {
	for seed := range uint32(400) {
		holdStores(t, someBytes(seed, 3000))
	}
}

func FuzzStore(f *testing.F) {
	for seed := range uint32(8) {
		f.Add(someBytes(seed, 500))
	}
	f.Fuzz(holdStores)
}
