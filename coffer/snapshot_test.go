package coffer_test

import (
	"fmt"
	"math"
	"strings"
	"testing"

	"coffer/api"
	"coffer/coffer"
)

// shot takes a snapshot, with the answer OK.
func shot(t *testing.T, s *coffer.Store) {
	t.Helper()
	want(t, "P13: Snapshot", s.Snapshot(), api.OK)
}

// A store and a scribe write the same snapshots: of epochs, opens and shots, with
// something pending and with nothing, of logs of no segment, of one and of more.
func TestBytesOfSnapshots(t *testing.T) {
	s := openStore(t, much, 100, 99)
	c := chain{opens: 1}
	all := pairs{}
	base, from, shots, file := 0, 1, 0, 10001
	for round := range 24 {
		if round%5 == 4 {
			reopened(t, s)
			c.opens++
			shots = 0
		}
		for i := range round % 4 {
			key, value := fmt.Sprint("\xff\x00"[i%2:], round*i%7), strings.Repeat("v", round)
			synced(t, s, key, value)
			all[key] = value
			c.batch(putText(key, value))
		}
		if round%6 == 2 {
			rotated(t, s, 1)
			c.rotate()
		}
		if round%3 == 1 {
			s.Put("pending", fmt.Sprint(round))
			s.Delete("none")
			all["pending"] = fmt.Sprint(round)
			c.batch(putText("pending", fmt.Sprint(round)), deleteText("none"))
		}
		base += len(c.log(base, from, 100))
		from = len(c.records) + 1
		sheet := sheet{epoch: c.epoch, opens: c.opens, count: len(c.records), shots: shots, base: base, file: file, last: c.tag(len(c.records))}
		manifest, snapshot := sheet.shot(snapshotText(all))
		shot(t, s)
		disk := []api.File{manifest}
		if snapshot.Bytes != "" {
			disk = append(disk, snapshot)
		}
		wantDisk(t, fmt.Sprintf("P13: round %d", round), s, len(c.records), disk)
		wantPairs(t, "P13: behind a snapshot", s, all)
		shots++
		file = 20003 - file
	}
	if c.epoch < 4 || base < 15 || len(all) < 6 {
		t.Errorf("the rounds came to epoch %d, base %d and %d keys", c.epoch, base, len(all))
	}
	reopened(t, s)
	wantPairs(t, "P14: behind the last snapshot", s, all)
}

// An empty state has no parts and no file; the manifest names one all the same.
func TestSnapshotOfAnEmptyState(t *testing.T) {
	s := openStore(t, much, 100, 99)
	c := chain{opens: 1}
	m := sheet{opens: 1, file: 10001, root: rootOf(nil), last: zeros}
	shot(t, s)
	wantDisk(t, "P13: of nothing", s, 0, []api.File{m.manifest()})
	m.file, m.shots = 10002, 1
	shot(t, s)
	wantDisk(t, "P13: of nothing, again", s, 0, []api.File{m.manifest()})
	reopened(t, s)
	wantPairs(t, "P14: of nothing", s, pairs{})
	wantDisk(t, "P14: of nothing", s, 0, []api.File{m.manifest()})
	synced(t, s, "a", "1")
	wantSizes(t, "P13: the base is 0", s, 0, 116, 1, 56)
	shot(t, s)
	wantSizes(t, "P13: behind 10002 comes 10001", s, 0, 116, 10001, 4)
	want(t, "Delete", s.Delete("a"), api.OK)
	shot(t, s)
	c.opens = 2
	c.batch(putText("a", "1"))
	c.batch(deleteText("a"))
	m = sheet{opens: 2, count: 2, shots: 1, base: 2, file: 10002, root: rootOf(nil), last: c.tag(2)}
	wantDisk(t, "P13: of a state that is empty again", s, 2, []api.File{m.manifest()})
	reopened(t, s)
	wantPairs(t, "P14: of a state that is empty again", s, pairs{})
	synced(t, s, "b", "2")
	shot(t, s)
	wantSizes(t, "P13: behind 10002 comes 10001, when opened again", s, 0, 116, 10001, 4)
}

// filled syncs a state whose plain text in a snapshot has just so many bytes: not
// 1 or 2.
func filled(t *testing.T, s *coffer.Store, size int) pairs {
	t.Helper()
	all := pairs{}
	for i := 0; size > 0; i++ {
		most := 2 + api.MaxKey + api.MaxValue
		take := min(size, most)
		if left := size - take; left > 0 && left < 3 {
			take -= 3
		}
		key := fmt.Sprintf("%016d", i)[max(0, api.MaxKey-(take-2)):]
		value := strings.Repeat("v", take-2-len(key))
		all[key] = value
		want(t, "Put", s.Put(key, value), api.OK)
		if i%api.MaxBatch == api.MaxBatch-1 {
			want(t, "Sync", s.Sync(), api.OK)
		}
		size -= take
	}
	want(t, "Sync", s.Sync(), api.OK)
	return all
}

// States of just so many parts, of one byte less and of one more, up to the most
// that may be.
func TestSnapshotParts(t *testing.T) {
	most := api.MaxParts * api.PartSize
	for _, size := range []int{0, 3, 4, 16, 63, 64, 65, 127, 128, 129, 192, 193, 320, 1000, most - 64, most - 63, most - 1, most} {
		s := openStore(t, much, 1000, 99)
		all := filled(t, s, size)
		c := chain{opens: 1}
		image := s.Image()
		log := image[max(0, len(image)-1):]
		m := sheet{opens: 1, count: s.Count(), base: len(image), file: 10001, last: c.tag(0)}
		for _, f := range log {
			m.last = f.Bytes[len(f.Bytes)-32:]
		}
		shot(t, s)
		manifest, snapshot := m.shot(snapshotText(all))
		disk := []api.File{manifest, snapshot}
		if size == 0 {
			disk = disk[:1]
		} else if len(snapshot.Bytes) != size {
			t.Fatalf("the state has %d bytes, want %d", len(snapshot.Bytes), size)
		}
		wantDisk(t, fmt.Sprintf("P13: of %d bytes", size), s, s.Count(), disk)
		reopened(t, s)
		wantPairs(t, fmt.Sprintf("P14: of %d bytes", size), s, all)
	}
}

// A state of more than MaxParts parts has no snapshot, whatever the room; it
// stays what it is, and no shot is counted.
func TestSnapshotOfTooManyParts(t *testing.T) {
	most := api.MaxParts * api.PartSize
	for _, size := range []int{most + 1, most + 64, most + 1000} {
		s := openStore(t, much, 1000, 99)
		all := filled(t, s, size)
		before, count := s.Image(), s.Count()
		for range 2 {
			want(t, "P13: too many parts", s.Snapshot(), api.ErrNoSpace)
			wantDisk(t, "P13: too many parts", s, count, before)
			wantPairs(t, "P13: too many parts", s, all)
		}
		all["pending"] = "1"
		s.Put("pending", "1")
		want(t, "P13: too many parts, and something pending", s.Snapshot(), api.ErrNoSpace)
		if s.Count() != count+1 {
			t.Errorf("P13: what was pending is not synced: the count is %d", s.Count())
		}
		reopened(t, s)
		wantPairs(t, "P13: too many parts", s, all)
		for i := range api.MaxBatch {
			s.Delete(fmt.Sprintf("%016d", i))
			s.Delete("pending")
		}
		want(t, "Sync", s.Sync(), api.OK)
		for i := range api.MaxBatch {
			s.Delete(fmt.Sprintf("%016d", api.MaxBatch+i))
		}
		shot(t, s)
		if shots := s.Image()[0].Bytes[8:10]; shots != two(0) {
			t.Errorf("P13: a Snapshot that had no room was counted: %x shots", shots)
		}
	}
}

// Room that is just enough, and one byte short: with a manifest there and
// without, of no parts and of some, with something pending and with nothing.
func TestSnapshotRoom(t *testing.T) {
	empty := func(s *coffer.Store) {}
	one := func(s *coffer.Store) { synced(t, s, "a", "1") }
	pending := func(s *coffer.Store) { s.Put("a", "1") }
	second := func(s *coffer.Store) {
		one(s)
		shot(t, s)
		synced(t, s, "b", "2")
	}
	for _, c := range []struct {
		what             string
		prepare          func(s *coffer.Store)
		enough           int
		full, afterwards []int
	}{
		{"a manifest alone", empty, 116, nil, []int{0, 116}},
		{"a manifest and a part", one, 56 + 116 + 4, []int{1, 56}, []int{0, 116, 10001, 4}},
		{"a record, a manifest and a part", pending, 56 + 116 + 4, []int{1, 56}, []int{0, 116, 10001, 4}},
		{"a second snapshot", second, 116 + 4 + 56 + 8, []int{0, 116, 2, 56, 10001, 4}, []int{0, 116, 10002, 8}},
	} {
		for short := range 3 {
			s := openStore(t, c.enough-short, 100, 9)
			c.prepare(s)
			if short == 0 {
				want(t, "P13: room for "+c.what, s.Snapshot(), api.OK)
				wantSizes(t, "P13: room for "+c.what, s, c.afterwards...)
				reopened(t, s)
				continue
			}
			for range 2 {
				want(t, "P13: no room for "+c.what, s.Snapshot(), api.ErrNoSpace)
				wantSizes(t, "P13: no room for "+c.what, s, c.full...)
			}
			keys, _ := s.Keys()
			reopened(t, s)
			if again, _ := s.Keys(); fmt.Sprint(again) != fmt.Sprint(keys) {
				t.Errorf("P13: no room for %s: the keys are %q, then %q", c.what, keys, again)
			}
		}
	}
}

// Where a manifest is there, one of an empty state needs no room at all.
func TestSnapshotOnAFullDisk(t *testing.T) {
	s := openStore(t, 116+9+42+4+3, 100, 9)
	shot(t, s)
	s.Put("a", "")
	s.Delete("a")
	want(t, "Sync", s.Sync(), api.OK)
	if used(s) != 116+9+42+4+3 {
		t.Fatalf("the disk is not full")
	}
	shot(t, s)
	wantSizes(t, "P13: of a full disk", s, 0, 116)
	s.Put("a", "1")
	want(t, "P13: there is room for the record, but not for the part", s.Snapshot(), api.ErrNoSpace)
	wantSizes(t, "P13: no room for the part", s, 0, 116, 2, 56)
	want(t, "P13: nothing is pending any more", s.Sync(), api.OK)
	reopened(t, s)
	wantPairs(t, "P13: what was pending is acknowledged", s, pairs{"a": "1"})
}

// Sync's error comes ahead of Snapshot's own, and then there is no snapshot.
func TestSnapshotTellsTheErrorOfItsSync(t *testing.T) {
	for what, c := range map[string]struct {
		room, limit int
		e           api.Errno
	}{
		"no room":            {56 + 46, 9, api.ErrNoSpace},
		"the limit":          {much, 1, api.ErrExhausted},
		"no room, the limit": {56, 1, api.ErrExhausted},
	} {
		s := openStore(t, c.room, 1000, c.limit)
		synced(t, s, "a", "1")
		before := s.Image()
		s.Put("b", "2")
		for range 2 {
			want(t, "P13: "+what, s.Snapshot(), c.e)
			wantDisk(t, "P13: "+what, s, 1, before)
			wantPairs(t, "P11: what is pending stays pending", s, pairs{"a": "1", "b": "2"})
		}
	}
}

// A snapshot is no record: at the limit there may be one.
func TestSnapshotAtTheLimit(t *testing.T) {
	for limit := range 4 {
		s := openStore(t, much, 60, limit)
		p := pairs{}
		for i := range limit {
			synced(t, s, fmt.Sprint(i), "x")
			p[fmt.Sprint(i)] = "x"
		}
		for range 3 {
			shot(t, s)
		}
		if s.Count() != limit {
			t.Errorf("P13: the count is %d, want %d", s.Count(), limit)
		}
		reopened(t, s)
		wantPairs(t, "P14: at the limit", s, p)
		s.Put("more", "")
		want(t, "P10: behind the limit", s.Sync(), api.ErrExhausted)
	}
}

// The shots end at MaxShots; Sync comes ahead of that, and the room behind it.
// With the next Open they are 0 again.
func TestShots(t *testing.T) {
	s := openStore(t, much, 100, 99)
	for i := range api.MaxShots {
		shot(t, s)
		if shots := s.Image()[0].Bytes[8:10]; shots != two(i) {
			t.Fatalf("P13: the manifest says %x shots, want %d", shots, i)
		}
	}
	before := s.Image()
	for range 2 {
		want(t, "P13: a shot too many", s.Snapshot(), api.ErrExhausted)
		wantDisk(t, "P13: a shot too many", s, 0, before)
	}
	s.Put("a", "1")
	want(t, "P13: a shot too many, and something pending", s.Snapshot(), api.ErrExhausted)
	wantSizes(t, "P13: what was pending is synced", s, 0, 116, 1, 56)
	filled(t, s, api.MaxParts*api.PartSize)
	want(t, "P13: a shot too many, and too many parts", s.Snapshot(), api.ErrExhausted)
	for i := range 2 * api.MaxBatch {
		s.Delete(fmt.Sprintf("%016d", i))
		if i%api.MaxBatch == api.MaxBatch-1 {
			want(t, "Sync", s.Sync(), api.OK)
		}
	}
	want(t, "P13: a shot too many", s.Snapshot(), api.ErrExhausted)
	reopened(t, s)
	shot(t, s)
	if shots := s.Image()[0].Bytes[8:10]; shots != two(0) {
		t.Errorf("P14: behind Open the manifest says %x shots", shots)
	}
}

// The two files serve in turn, also through closing and opening.
func TestSnapshotsInTurn(t *testing.T) {
	s := openStore(t, much, 100, 99)
	synced(t, s, "a", "1")
	for i := range 9 {
		if i%3 == 2 {
			reopened(t, s)
		}
		shot(t, s)
		wantSizes(t, fmt.Sprintf("P13: snapshot %d", i), s, 0, 116, 10001+i%2, 4)
	}
}

// The snapshot's file is 10002 only where the manifest names 10001, whatever
// else a manifest of no parts may name.
func TestSnapshotBehindAnyName(t *testing.T) {
	for named, next := range map[int]int{0: 10001, 1: 10001, 9999: 10001, 10000: 10001, 10001: 10002, 10002: 10001, 10003: 10001, 65535: 10001} {
		c := longChain()
		s := raised(t, c, 6)
		s.Load([]api.File{sheetAt(c, 6, 2, 3, named).manifest()})
		want(t, "P14: Open", s.Open(), api.OK)
		synced(t, s, "k", "v")
		shot(t, s)
		wantSizes(t, fmt.Sprintf("P13: behind a manifest that names %d", named), s, 0, 116, next, 4)
		reopened(t, s)
		wantPairs(t, "P14: Open", s, pairs{"k": "v"})
	}
}

// What Open found is what a snapshot goes by, and what comes behind it.
func TestSnapshotOfAllShapes(t *testing.T) {
	for name, base := range map[string]int{
		"one segment": 1, "three segments": 3, "six segments": 6, "an empty manifest": 5, "a manifest and segments": 9, "a manifest alone": 41,
	} {
		c := longChain()
		s := raised(t, c, 6)
		s.Load(disksOf(c)[name])
		want(t, "P14: "+name, s.Open(), api.OK)
		m := sheet{epoch: 2, opens: 7, count: 6, base: base, file: 10001, last: c.tag(6)}
		if name == "an empty manifest" || name == "a manifest alone" {
			m.file = 10002
		}
		manifest, snapshot := m.shot(snapshotText(stateAt(6)))
		shot(t, s)
		disk := []api.File{manifest, snapshot}
		wantDisk(t, "P13: of "+name, s, 6, disk)
		synced(t, s, "new", "value")
		c.opens = 7
		c.batch(putText("new", "value"))
		wantDisk(t, "P10: behind a snapshot of "+name, s, 7, among(disk, c.log(base, 7, 1)))
		reopened(t, s)
		p := stateAt(6)
		p["new"] = "value"
		wantPairs(t, "P14: behind a snapshot of "+name, s, p)
	}
}

// shotDisk makes a store with a manifest, a snapshot, three segments and
// something pending. A Snapshot of it does nine steps.
func shotDisk(t *testing.T) both {
	b := newBoth(t, much, 60, 99)
	b.Open()
	b.Put("a", strings.Repeat("1", 20))
	b.Put("b", strings.Repeat("2", 20))
	b.Snapshot()
	b.Rotate()
	for i := range 4 {
		b.Put(fmt.Sprint("a", i), "3")
		b.Sync()
	}
	b.Delete("b")
	b.Put("c", "")
	return b
}

// The machine stops ahead of each step of a Snapshot, with any length of what was
// appended left, and then ahead of each step of the Open behind it.
func TestCrashInSnapshot(t *testing.T) {
	const steps = 2 + 2 + 1 + 4 // the record, the parts, the manifest, the removals
	opens := 0
	for after := range steps + 1 {
		for torn := range 70 {
			for later := 0; ; later++ {
				b := shotDisk(t)
				b.Crash(after, torn)
				e := b.Snapshot()
				if crashed := e == api.ErrCrashed; crashed != (after < steps) {
					t.Fatalf("P13: Crash(%d, %d): %d", after, torn, e)
				}
				if e == api.OK {
					b.Close()
				}
				b.Crash(later, torn)
				e = b.Open()
				if e == api.ErrCrashed {
					opens++
					b.Crash(0, math.MaxInt)
					if b.Open() == api.ErrCrashed {
						want(t, "P17: Open", b.Open(), api.OK)
					}
				}
				b.Crash(999, 0)
				b.Put("d", "4")
				want(t, "P11: behind a crash", b.Sync(), api.OK)
				want(t, "P13: behind a crash", b.Snapshot(), api.OK)
				b.Close()
				want(t, "P17: Open", b.Open(), api.OK)
				if e == api.OK {
					break
				}
			}
		}
	}
	if opens < 100 {
		t.Errorf("but %d Opens were interrupted", opens)
	}
}

// The same of a Snapshot of an empty state, that does no more than replace the
// manifest and remove the rest.
func TestCrashInSnapshotOfAnEmptyState(t *testing.T) {
	for after := range 6 {
		for later := range 6 {
			b := newBoth(t, much, 1, 99)
			b.Open()
			b.Put("a", "1")
			b.Snapshot()
			b.Rotate()
			b.Delete("a")
			b.Sync()
			b.Crash(after, 3)
			if e := b.Snapshot(); (e == api.ErrCrashed) != (after < 4) {
				t.Fatalf("P13: Crash(%d, 3): %d", after, e)
			}
			b.Close()
			b.Crash(later, 0)
			if b.Open() == api.ErrCrashed {
				want(t, "P17: Open", b.Open(), api.OK)
			}
			wantPairs(t, "P17: Open", b.s, pairs{})
			b.Crash(999, 0)
			b.Put("b", "2")
			b.Snapshot()
			b.Close()
			b.Open()
		}
	}
}

// Behind a crash the file that the manifest does not name serves again: its
// bytes, torn or whole, are gone.
func TestCrashLeavesTheOldSnapshot(t *testing.T) {
	for after := range 3 {
		for torn := range 10 {
			s := openStore(t, much, 100, 99)
			synced(t, s, "a", "1")
			shot(t, s)
			before := s.Image()
			s.Crash(after, torn)
			want(t, "P15: Snapshot", s.Snapshot(), api.ErrCrashed)
			want(t, "P15: closed", s.Snapshot(), api.ErrClosed)
			want(t, "P15: closed", s.Rotate(), api.ErrClosed)
			want(t, "P17: Open", s.Open(), api.OK)
			wantDisk(t, "P14: the old snapshot alone", s, 1, before)
			shot(t, s)
			wantSizes(t, "P13: once more", s, 0, 116, 10002, 4)
		}
	}
}

// A Rotate or Snapshot that answers another error does no step.
func TestRefusalsDoNoStep(t *testing.T) {
	s := openStore(t, 56+116, 100, 1)
	synced(t, s, "a", "1")
	s.Crash(0, 0)
	want(t, "P12: the limit", s.Rotate(), api.ErrExhausted)
	want(t, "P13: no room", s.Snapshot(), api.ErrNoSpace)
	s.Put("b", "2")
	want(t, "P12: the limit", s.Rotate(), api.ErrExhausted)
	want(t, "P13: the limit", s.Snapshot(), api.ErrExhausted)
	wantPairs(t, "P15: still open", s, pairs{"a": "1", "b": "2"})
	reopened(t, s)
	s = openStore(t, 116, 100, 9)
	s.Crash(0, 0)
	want(t, "P15: Snapshot", s.Snapshot(), api.ErrCrashed)
	wantDisk(t, "P15: ahead of the first step", s, 0, nil)
}
