package coffer_test

import (
	"fmt"
	"math"
	"testing"

	"coffer/api"
	"coffer/coffer"
)

func TestCrashRefuses(t *testing.T) {
	s := newStore(t, much, 100, 9)
	for _, c := range [][2]int{{-1, 0}, {0, -1}, {-1, -1}, {math.MinInt, 5}, {5, math.MinInt}} {
		want(t, "P15: Crash", s.Crash(c[0], c[1]), api.ErrArg)
	}
	want(t, "Open", s.Open(), api.OK)
	for range 3 {
		synced(t, s, "a", "1")
	}
}

// A crash that was refused does not take the place of the one ahead of it.
func TestCrashThatIsRefused(t *testing.T) {
	s := openStore(t, much, 100, 9)
	s.Crash(0, 0)
	s.Crash(-1, 0)
	s.Crash(5, -1)
	s.Put("a", "1")
	want(t, "P15: Sync", s.Sync(), api.ErrCrashed)
}

// The machine stops ahead of the append or ahead of the flush of a Sync, with
// so many bytes of what was appended left: of the first segment, of a record
// more, of a new segment.
func TestCrashInSync(t *testing.T) {
	for _, c := range []struct{ before, segment, size int }{{0, 100, 56}, {1, 100, 47}, {1, 50, 56}, {2, 100, 56}} {
		for after := range 2 {
			for torn := range c.size + 3 {
				what := fmt.Sprintf("%d records, segment %d, Crash(%d, %d)", c.before, c.segment, after, torn)
				s := openStore(t, much, c.segment, 9)
				p := pairs{}
				for i := range c.before {
					synced(t, s, fmt.Sprint(i), "x")
					p[fmt.Sprint(i)] = "x"
				}
				image := s.Image()
				s.Crash(after, torn)
				s.Put("0", "y")
				want(t, "P15: "+what, s.Sync(), api.ErrCrashed)
				if s.Count() != c.before {
					t.Errorf("P15: %s: the count is %d", what, s.Count())
				}
				if left := used(s) - usedBy(image); left != min(torn, c.size)*after {
					t.Errorf("P15: %s: %d bytes are left", what, left)
				}
				want(t, "P15: "+what, s.Open(), api.OK)
				if after == 0 || torn < c.size {
					wantPairs(t, "P17: "+what, s, p)
					wantDisk(t, "P17: "+what, s, c.before, image)
				} else {
					p["0"] = "y"
					wantPairs(t, "P17: "+what, s, p)
					if s.Count() != c.before+1 {
						t.Errorf("P17: %s: the count is %d", what, s.Count())
					}
				}
				synced(t, s, "z", "z")
				p["z"] = "z"
				reopened(t, s)
				wantPairs(t, "P17: "+what+", and on", s, p)
			}
		}
	}
}

func used(s *coffer.Store) int { return usedBy(s.Image()) }

func usedBy(files []api.File) int {
	n := 0
	for _, f := range files {
		n += len(f.Bytes)
	}
	return n
}

func TestCrashComesAfterItsSteps(t *testing.T) {
	for after := range 9 {
		s := openStore(t, much, 100, 99)
		s.Crash(after, math.MaxInt)
		for i := range 5 {
			s.Put("a", fmt.Sprint(i))
			if i < after/2 {
				want(t, "P15: ahead of the crash", s.Sync(), api.OK)
				continue
			}
			want(t, "P15: Sync", s.Sync(), api.ErrCrashed)
			break
		}
		if s.Count() != after/2 {
			t.Errorf("P15: Crash(%d, ..): the count is %d", after, s.Count())
		}
		want(t, "P17: Open", s.Open(), api.OK)
		if s.Count() != (after+1)/2 {
			t.Errorf("P17: Crash(%d, ..): the count is %d", after, s.Count())
		}
	}
}

// Nothing is seen of a crash that is to come: not in what makes no step, nor
// over closing, opening and loading.
func TestCrashWaits(t *testing.T) {
	s := openStore(t, much, 100, 9)
	synced(t, s, "a", "1")
	before := s.Image()
	s.Crash(0, 5)
	s.Put("b", "2")
	wantPairs(t, "P15: a crash is to come", s, pairs{"a": "1", "b": "2"})
	s.Close()
	want(t, "P14: Open that does no step", s.Open(), api.OK)
	want(t, "P11: Sync of nothing", s.Sync(), api.OK)
	s.Close()
	want(t, "P16: Load", s.Load(before), api.OK)
	want(t, "P14: Open that does no step", s.Open(), api.OK)
	wantDisk(t, "P15: a crash is to come", s, 1, before)
	s.Put("b", "2")
	want(t, "P15: Sync", s.Sync(), api.ErrCrashed)
	wantDisk(t, "P15: the crash has come", s, 1, before)
	want(t, "P14: Open", s.Open(), api.OK)
	synced(t, s, "c", "3")
	synced(t, s, "d", "4")
	wantPairs(t, "P15: the crash is over", s, pairs{"a": "1", "c": "3", "d": "4"})
}

// A Sync that answers another error does no step.
func TestCrashIsNotReachedWithoutSteps(t *testing.T) {
	s := openStore(t, 56, 100, 1)
	s.Crash(0, 0)
	s.Put("a", "12")
	want(t, "P10: no room", s.Sync(), api.ErrNoSpace)
	want(t, "P15: still open", s.Put("a", "1"), api.OK)
	s.Close()
	s.Open()
	s.Put("a", "1")
	want(t, "P15: Sync", s.Sync(), api.ErrCrashed)
	s.Open()
	synced(t, s, "a", "1")
	s.Crash(0, 0)
	s.Put("a", "1")
	want(t, "P10: the limit", s.Sync(), api.ErrExhausted)
	want(t, "P15: still open", s.Close(), api.OK)
}

func TestCrashTakesThePlaceOfAnother(t *testing.T) {
	s := openStore(t, much, 100, 9)
	s.Crash(0, 0)
	s.Crash(2, 0)
	synced(t, s, "a", "1")
	s.Crash(1, math.MaxInt)
	s.Crash(1, 3)
	s.Put("b", "2")
	want(t, "P15: Sync", s.Sync(), api.ErrCrashed)
	wantSizes(t, "P15: torn", s, 1, 59)
	s.Crash(0, 0)
	s.Crash(math.MaxInt, 0)
	want(t, "P14: Open", s.Open(), api.OK)
	for range 5 {
		synced(t, s, "b", "2")
	}
}
