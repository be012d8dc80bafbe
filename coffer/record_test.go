package coffer_test

import (
	"fmt"
	"strings"
	"testing"

	"coffer/api"
	"coffer/coffer"
)

// A store and a scribe write the same records, through closing and opening.
func TestBytesOfTheLog(t *testing.T) {
	s := newStore(t, much, 150, 99)
	var c chain
	var files []api.File
	from := 1
	for i := range 12 {
		if i%3 == 0 {
			if i > 0 {
				want(t, "Close", s.Close(), api.OK)
			}
			want(t, "Open", s.Open(), api.OK)
			c.opens++
		}
		key, value := strings.Repeat("k", 1+i), strings.Repeat("v", 2*i)
		s.Put(key, value)
		s.Delete("x")
		s.Put("z", fmt.Sprint(i))
		want(t, "P11: Sync", s.Sync(), api.OK)
		c.batch(putText(key, value), deleteText("x"), putText("z", fmt.Sprint(i)))
		if n := len(files); n == 0 || len(files[n-1].Bytes) >= 150 {
			from = i + 1
			files = append(files, api.File{})
		}
		files[len(files)-1] = c.segment(len(files), from, i+1)
		wantDisk(t, "P10: the log", s, i+1, files)
	}
	if len(files) < 4 {
		t.Errorf("there are but %d segments", len(files))
	}
}

// A batch of the most and the largest changes.
func TestLargestBatch(t *testing.T) {
	s := openStore(t, much, 100, 9)
	c := chain{opens: 1}
	var changes []string
	all := pairs{}
	for i := range api.MaxBatch {
		key, value := fmt.Sprintf("%016d", i), strings.Repeat(fmt.Sprint(i%10), api.MaxValue)
		all[key] = value
		changes = append(changes, putText(key, value))
		want(t, "P9: Put", s.Put(key, value), api.OK)
	}
	c.batch(changes...)
	want(t, "P11: Sync", s.Sync(), api.OK)
	wantDisk(t, "P11: the largest batch", s, 1, []api.File{c.segment(1, 1, 1)})
	reopened(t, s)
	wantPairs(t, "P14: the largest batch", s, all)
}

func TestSyncOfNothing(t *testing.T) {
	s := openStore(t, 0, 1, 0)
	want(t, "P11: Sync of nothing", s.Sync(), api.OK)
	wantDisk(t, "P11: Sync of nothing", s, 0, nil)
	s = openStore(t, much, 1, 1)
	synced(t, s, "a", "1")
	before := s.Image()
	for range 3 {
		want(t, "P11: Sync of nothing", s.Sync(), api.OK)
	}
	wantDisk(t, "P11: Sync of nothing", s, 1, before)
}

// A segment of as many bytes as 'segment' says is full; one byte less, and it
// takes another record.
func TestSegmentIsFull(t *testing.T) {
	for segment, files := range map[int][]int{
		1: {1, 56, 2, 56, 3, 56}, 56: {1, 56, 2, 56, 3, 56}, 57: {1, 103, 2, 56}, 103: {1, 103, 2, 56}, 104: {1, 150}, api.MaxRoom: {1, 150},
	} {
		s := openStore(t, much, segment, 9)
		for range 3 {
			synced(t, s, "a", "1")
		}
		wantSizes(t, fmt.Sprintf("P10: segment %d", segment), s, files...)
		s = openStore(t, much, segment, 9)
		for range 3 {
			synced(t, s, "a", "1")
			reopened(t, s)
		}
		wantSizes(t, fmt.Sprintf("P10: segment %d, opened again and again", segment), s, files...)
	}
}

func TestLimit(t *testing.T) {
	for _, limit := range []int{0, 1, 5, api.MaxLimit} {
		s := openStore(t, much, 100, limit)
		for range limit {
			synced(t, s, "a", "1")
		}
		before := s.Image()
		want(t, "P9: Put", s.Put("b", "2"), api.OK)
		for range 2 {
			want(t, "P10: behind the limit", s.Sync(), api.ErrExhausted)
			if got, e := s.Get("b"); got != "2" || e != api.OK {
				t.Errorf("P11: what is pending stays pending: %q, %d", got, e)
			}
			wantDisk(t, "P10: behind the limit", s, limit, before)
		}
		reopened(t, s)
		if _, e := s.Get("b"); e != api.ErrNone {
			t.Errorf("P10: what was not written is there: %d", e)
		}
	}
}

// The limit comes ahead of the room.
func TestLimitWithoutRoom(t *testing.T) {
	s := openStore(t, 0, 100, 0)
	s.Put("a", "1")
	want(t, "P10: Sync", s.Sync(), api.ErrExhausted)
	s = openStore(t, 56, 100, 1)
	synced(t, s, "a", "1")
	s.Put("a", "1")
	want(t, "P10: Sync", s.Sync(), api.ErrExhausted)
}

// Room that is just enough, and one byte short: for a first segment, for a
// record more, for a new segment.
func TestRoom(t *testing.T) {
	for _, c := range []struct {
		what             string
		before           int
		segment, enough  int
		full, afterwards []int
	}{
		{"a first segment", 0, 100, 56, nil, []int{1, 56}},
		{"a record more", 1, 100, 103, []int{1, 56}, []int{1, 103}},
		{"a new segment", 1, 56, 112, []int{1, 56}, []int{1, 56, 2, 56}},
		{"a third segment", 4, 100, 262, []int{1, 103, 2, 103}, []int{1, 103, 2, 103, 3, 56}},
	} {
		for short := range 3 {
			s := openStore(t, c.enough-short, c.segment, 9)
			for range c.before {
				synced(t, s, "a", "1")
			}
			s.Put("b", "2")
			if short == 0 {
				want(t, "P10: room for "+c.what, s.Sync(), api.OK)
				wantSizes(t, "P10: room for "+c.what, s, c.afterwards...)
				continue
			}
			for range 2 {
				want(t, "P10: no room for "+c.what, s.Sync(), api.ErrNoSpace)
				wantSizes(t, "P10: no room for "+c.what, s, c.full...)
				if got, e := s.Get("b"); got != "2" || e != api.OK {
					t.Errorf("P11: what is pending stays pending: %q, %d", got, e)
				}
			}
			if s.Count() != c.before {
				t.Errorf("P10: no room for %s: the count is %d", c.what, s.Count())
			}
		}
	}
}

// A segment that had no room is not begun: what fits goes where it would have
// gone.
func TestNoSegmentIsBegunWithoutRoom(t *testing.T) {
	s := openStore(t, 9+42+4, 100, 9)
	c := chain{opens: 1}
	s.Put("key", "value")
	want(t, "P10: Sync", s.Sync(), api.ErrNoSpace)
	wantDisk(t, "P10: no room", s, 0, nil)
	reopened(t, s)
	c.opens++
	synced(t, s, "k", "")
	c.batch(putText("k", ""))
	wantDisk(t, "P10: room", s, 1, []api.File{c.segment(1, 1, 1)})
	reopened(t, s)
	wantPairs(t, "P10: room", s, pairs{"k": ""})
}

// What no Sync could write is still pending for the next one, with what came
// behind it.
func TestPendingStaysInItsOrder(t *testing.T) {
	s := openStore(t, 9+42+4+42+4, 1000, 9)
	synced(t, s, "a", "")
	s.Put("b", "12345678")
	want(t, "P10: Sync", s.Sync(), api.ErrNoSpace)
	s.Delete("b")
	want(t, "P10: Sync", s.Sync(), api.ErrNoSpace)
	wantPairs(t, "P11: pending", s, pairs{"a": ""})
	for range api.MaxBatch - 2 {
		want(t, "P9: Put", s.Put("c", "3"), api.OK)
	}
	want(t, "P9: Put", s.Put("c", "3"), api.ErrFull)
}

func TestExamplesOfRotateAndSnapshot(t *testing.T) {
	s := openStore(t, 100000, 100, 5)
	synced(t, s, "a", "1")
	reopened(t, s)
	synced(t, s, "b", "2")
	wantSizes(t, "example 6", s, 1, 103)
	synced(t, s, "long key", "long value")
	wantSizes(t, "example 6", s, 1, 103, 2, 9+42+3+18)
	want(t, "example 6: Snapshot", s.Snapshot(), api.OK)
	wantSizes(t, "example 6", s, 0, 116, 10001, 2+2+18+3*2)
	s = openStore(t, 100000, 100, 99)
	want(t, "example 10: Rotate", s.Rotate(), api.OK)
	wantSizes(t, "example 10", s, 1, 9+42)
	if s.Count() != 1 {
		t.Errorf("example 10: the count is %d", s.Count())
	}
	rotated(t, s, 4)
	want(t, "example 10: the sixth Rotate", s.Rotate(), api.ErrExhausted)
}

// The examples 5 to 9 of the document, but for what they say of Snapshot.
func TestExamples(t *testing.T) {
	s := openStore(t, 100000, 100, 5)
	want(t, "Put", s.Put("a", "1"), api.OK)
	wantPairs(t, "example 5", s, pairs{"a": "1"})
	wantDisk(t, "example 5", s, 0, nil)
	want(t, "Sync", s.Sync(), api.OK)
	wantSizes(t, "example 5", s, 1, 56)
	reopened(t, s)
	wantPairs(t, "example 5", s, pairs{"a": "1"})
	synced(t, s, "b", "2")
	wantSizes(t, "example 6", s, 1, 103)
	image := func(s *coffer.Store) []api.File {
		s.Close()
		defer s.Open()
		return s.Image()
	}
	before := image(s)
	s.Crash(1, 30)
	s.Put("c", "3")
	want(t, "example 7: Sync", s.Sync(), api.ErrCrashed)
	if _, e := s.Get("c"); e != api.ErrClosed {
		t.Errorf("example 7: Get: %d", e)
	}
	wantSizes(t, "example 7: torn", s, 1, 103, 2, 30)
	want(t, "example 7: Open", s.Open(), api.OK)
	if _, e := s.Get("c"); e != api.ErrNone {
		t.Errorf("example 7: Get: %d", e)
	}
	wantDisk(t, "example 7: the torn bytes are gone", s, 2, before)
	s.Crash(1, 1000)
	s.Put("c", "3")
	want(t, "example 7: Sync", s.Sync(), api.ErrCrashed)
	want(t, "example 7: Open", s.Open(), api.OK)
	wantPairs(t, "example 7", s, pairs{"a": "1", "b": "2", "c": "3"})
	wantSizes(t, "example 7: whole", s, 1, 103, 2, 56)
	if s.Count() != 3 {
		t.Errorf("example 7: the count is %d", s.Count())
	}
	early := image(s)
	s.Close()
	want(t, "Load", s.Load(early), api.OK)
	want(t, "example 8: nothing was synced", s.Open(), api.OK)
	synced(t, s, "d", "4")
	s.Close()
	want(t, "Load", s.Load(early), api.OK)
	want(t, "example 8: Open", s.Open(), api.ErrTampered)
}
