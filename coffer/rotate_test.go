package coffer_test

import (
	"fmt"
	"strings"
	"testing"

	"coffer/api"
	"coffer/coffer"
)

// rotated rotates so often.
func rotated(t *testing.T, s *coffer.Store, times int) {
	t.Helper()
	for range times {
		want(t, "P12: Rotate", s.Rotate(), api.OK)
	}
}

// manifestEpoch takes a snapshot and tells the epoch that its manifest says.
func manifestEpoch(t *testing.T, s *coffer.Store) int {
	t.Helper()
	want(t, "P13: Snapshot", s.Snapshot(), api.OK)
	return int(s.Image()[0].Bytes[1])
}

// A store and a scribe write the same rotations and the same records between
// them, with something pending and with nothing, through closing and opening.
func TestBytesOfRotations(t *testing.T) {
	s := newStore(t, much, 150, 99)
	var c chain
	check := func(what string) {
		t.Helper()
		wantDisk(t, "P12: "+what, s, len(c.records), c.log(0, 1, 150))
	}
	all := pairs{}
	for i := range api.MaxEpoch {
		want(t, "Open", s.Open(), api.OK)
		c.opens++
		wantPairs(t, "P14: behind a rotation", s, all)
		key, value := fmt.Sprint("key", i), strings.Repeat("v", 3*i)
		if i%2 == 1 {
			s.Put(key, value)
			s.Delete("gone")
			all[key] = value
			c.batch(putText(key, value), deleteText("gone"))
		}
		rotated(t, s, 1)
		c.rotate()
		check("Rotate")
		want(t, "P12: nothing is pending any more", s.Sync(), api.OK)
		check("Sync of nothing behind Rotate")
		synced(t, s, "a", fmt.Sprint(i))
		all["a"] = fmt.Sprint(i)
		c.batch(putText("a", fmt.Sprint(i)))
		check("Sync behind Rotate")
		wantPairs(t, "P12: behind a rotation", s, all)
		s.Close()
	}
	want(t, "Open", s.Open(), api.OK)
	wantPairs(t, "P14: behind all rotations", s, all)
}

// Rotate begins segments as Sync does.
func TestRotateInSegments(t *testing.T) {
	for segment, files := range map[int][]int{
		1: {1, 51, 2, 51, 3, 51}, 51: {1, 51, 2, 51, 3, 51}, 52: {1, 93, 2, 51}, 93: {1, 93, 2, 51}, 94: {1, 135}, api.MaxRoom: {1, 135},
	} {
		s := openStore(t, much, segment, 9)
		rotated(t, s, 3)
		wantSizes(t, fmt.Sprintf("P12: segment %d", segment), s, files...)
		reopened(t, s)
		wantPairs(t, "P14: behind rotations alone", s, pairs{})
		if epoch := manifestEpoch(t, s); epoch != 3 {
			t.Errorf("P14: the epoch is %d, want 3", epoch)
		}
	}
}

// Behind the last epoch there is none: what is pending is synced all the same.
func TestRotateBehindTheLastEpoch(t *testing.T) {
	s := openStore(t, much, 1000, 99)
	c := chain{opens: 1}
	rotated(t, s, api.MaxEpoch)
	for range api.MaxEpoch {
		c.rotate()
	}
	for i := range 3 {
		for range 2 {
			want(t, "P12: nothing is pending", s.Rotate(), api.ErrExhausted)
			wantDisk(t, "P12: nothing is pending", s, len(c.records), c.log(0, 1, 1000))
		}
		want(t, "Put", s.Put("a", fmt.Sprint(i)), api.OK)
		c.batch(putText("a", fmt.Sprint(i)))
		want(t, "P12: something is pending", s.Rotate(), api.ErrExhausted)
		wantDisk(t, "P12: something is pending", s, len(c.records), c.log(0, 1, 1000))
		want(t, "P12: nothing is pending any more", s.Sync(), api.OK)
		reopened(t, s)
		c.opens++
		wantPairs(t, "P12: what was pending is acknowledged", s, pairs{"a": fmt.Sprint(i)})
		wantDisk(t, "P12: opened again", s, len(c.records), c.log(0, 1, 1000))
	}
	if epoch := manifestEpoch(t, s); epoch != api.MaxEpoch {
		t.Errorf("P12: the epoch is %d, want %d", epoch, api.MaxEpoch)
	}
	want(t, "P12: behind a snapshot", s.Rotate(), api.ErrExhausted)
	reopened(t, s)
	want(t, "P12: the epoch is the manifest's", s.Rotate(), api.ErrExhausted)
}

// Sync's error comes ahead of Rotate's own, and then no K is written.
func TestRotateTellsTheErrorOfItsSync(t *testing.T) {
	s := openStore(t, 9+5*42+42, 1000, 99)
	rotated(t, s, api.MaxEpoch)
	before := s.Image()
	s.Put("a", "1")
	want(t, "P12: no room, and no epoch more", s.Rotate(), api.ErrNoSpace)
	wantDisk(t, "P12: no room", s, api.MaxEpoch, before)
	wantPairs(t, "P11: what is pending stays pending", s, pairs{"a": "1"})
	reopened(t, s)
	wantPairs(t, "P11: what was pending is lost", s, pairs{})
	want(t, "P12: nothing is pending", s.Rotate(), api.ErrExhausted)

	s = openStore(t, 9+42+4, 1000, 99) // room for a K, none for the R
	s.Put("a", "12")
	want(t, "P12: no room for what is pending", s.Rotate(), api.ErrNoSpace)
	wantDisk(t, "P12: no room for what is pending", s, 0, nil)
	wantPairs(t, "P11: what is pending stays pending", s, pairs{"a": "12"})
	reopened(t, s)
	want(t, "P12: nothing is pending", s.Rotate(), api.OK)

	s = openStore(t, much, 1000, 0)
	s.Put("a", "1")
	want(t, "P12: the limit", s.Rotate(), api.ErrExhausted)
	wantDisk(t, "P12: the limit", s, 0, nil)
	wantPairs(t, "P11: what is pending stays pending", s, pairs{"a": "1"})
}

// The limit counts records of the kind K too.
func TestRotateAtTheLimit(t *testing.T) {
	for limit := range api.MaxEpoch {
		s := openStore(t, much, 1000, limit)
		rotated(t, s, limit)
		before := s.Image()
		for range 2 {
			want(t, "P12: behind the limit", s.Rotate(), api.ErrExhausted)
			wantDisk(t, "P12: behind the limit", s, limit, before)
		}
		if epoch := manifestEpoch(t, s); epoch != limit {
			t.Errorf("P12: the epoch is %d, want %d", epoch, limit)
		}
	}
	s := openStore(t, much, 1000, 1)
	c := chain{opens: 1}
	c.batch(putText("a", "1"))
	s.Put("a", "1")
	want(t, "P12: the R takes the last count", s.Rotate(), api.ErrExhausted)
	wantDisk(t, "P12: the R takes the last count", s, 1, c.log(0, 1, 1000))
	reopened(t, s)
	wantPairs(t, "P12: what was pending is acknowledged", s, pairs{"a": "1"})
	if epoch := manifestEpoch(t, s); epoch != 0 {
		t.Errorf("P12: the epoch is %d, want 0", epoch)
	}
	s = openStore(t, 0, 1000, 0)
	want(t, "P10: the limit comes ahead of the room", s.Rotate(), api.ErrExhausted)
}

// Room that is just enough, and one byte short: for the first segment, for a
// record more, for a new segment; with something pending and with nothing.
func TestRotateRoom(t *testing.T) {
	for _, c := range []struct {
		what             string
		before, segment  int
		pending          bool
		enough           int
		full, afterwards []int
	}{
		{"a first segment", 0, 100, false, 51, nil, []int{1, 51}},
		{"a record more", 1, 100, false, 98, []int{1, 56}, []int{1, 98}},
		{"a new segment", 1, 56, false, 107, []int{1, 56}, []int{1, 56, 2, 51}},
		{"two records", 0, 100, true, 98, []int{1, 56}, []int{1, 98}},
		{"two segments", 0, 56, true, 107, []int{1, 56}, []int{1, 56, 2, 51}},
		{"a third segment", 1, 1, true, 163, []int{1, 56, 2, 56}, []int{1, 56, 2, 56, 3, 51}},
	} {
		for short := range 3 {
			s := openStore(t, c.enough-short, c.segment, 9)
			count := c.before
			for range c.before {
				synced(t, s, "a", "1")
			}
			if c.pending {
				s.Put("b", "2")
				count++
			}
			if short == 0 {
				want(t, "P12: room for "+c.what, s.Rotate(), api.OK)
				wantSizes(t, "P12: room for "+c.what, s, c.afterwards...)
				continue
			}
			for range 2 {
				want(t, "P12: no room for "+c.what, s.Rotate(), api.ErrNoSpace)
				wantSizes(t, "P12: no room for "+c.what, s, c.full...)
			}
			if s.Count() != count {
				t.Errorf("P12: no room for %s: the count is %d, want %d", c.what, s.Count(), count)
			}
			if _, e := s.Get("b"); c.pending != (e == api.OK) {
				t.Errorf("P12: no room for %s: what was pending: %d", c.what, e)
			}
			want(t, "P12: nothing is pending", s.Sync(), api.OK)
			reopened(t, s)
		}
	}
}

// A Rotate that had no room leaves the epoch, and the segment that is written.
func TestRotateWithoutRoomStaysInItsEpoch(t *testing.T) {
	s := openStore(t, 116+50, 100, 9)
	want(t, "P13: Snapshot", s.Snapshot(), api.OK)
	for range 2 {
		want(t, "P12: no room", s.Rotate(), api.ErrNoSpace)
	}
	if epoch := manifestEpoch(t, s); epoch != 0 {
		t.Errorf("P12: no room: the epoch is %d", epoch)
	}
	wantSizes(t, "P12: no room", s, 0, 116)
	s = openStore(t, 116+51, 100, 9)
	want(t, "P13: Snapshot", s.Snapshot(), api.OK)
	rotated(t, s, 1)
	if epoch := manifestEpoch(t, s); epoch != 1 {
		t.Errorf("P12: just enough room: the epoch is %d", epoch)
	}
	reopened(t, s)
	rotated(t, s, 1)
	wantSizes(t, "P12: behind a snapshot", s, 0, 116, 2, 51)
}

// The machine stops ahead of each step of a Rotate, with any length of what was
// appended left.
func TestCrashInRotate(t *testing.T) {
	for _, segment := range []int{1, 60, 1000} {
		for _, pending := range []bool{false, true} {
			steps := 2
			if pending {
				steps = 4
			}
			for after := range steps + 1 {
				for torn := range 60 {
					b := newBoth(t, much, segment, 99)
					b.Open()
					b.Put("a", "1")
					b.Sync()
					if pending {
						b.Put("b", "2")
					}
					b.Crash(after, torn)
					e := b.Rotate()
					if crashed := e == api.ErrCrashed; crashed != (after < steps) {
						t.Fatalf("P12: Crash(%d, %d): %d", after, torn, e)
					}
					if e == api.ErrCrashed {
						want(t, "P17: Open", b.Open(), api.OK)
					}
					b.Put("c", "3")
					b.Sync()
					b.Rotate()
					b.Close()
					want(t, "P17: Open", b.Open(), api.OK)
				}
			}
		}
	}
}

// A Rotate that a crash interrupted is taken over, if all of its record is left:
// the epoch is the next one, and the sixth is too many all the same.
func TestInterruptedRotations(t *testing.T) {
	s := openStore(t, much, 1000, 99)
	for i := range api.MaxEpoch {
		s.Crash(1, 51+i)
		want(t, "P15: Rotate", s.Rotate(), api.ErrCrashed)
		if s.Count() != i {
			t.Errorf("P15: Rotate: the count is %d, want %d", s.Count(), i)
		}
		s.Crash(0, 0)
		want(t, "P17: Open, that does no step", s.Open(), api.OK)
		if s.Count() != i+1 {
			t.Errorf("P17: Open: the count is %d, want %d", s.Count(), i+1)
		}
	}
	want(t, "P12: the sixth", s.Rotate(), api.ErrExhausted)
	wantSizes(t, "P12: five rotations", s, 1, 9+5*42)
}
