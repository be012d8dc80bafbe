package coffer_test

import (
	"math"
	"strings"
	"testing"

	"coffer/api"
	"coffer/coffer"
)

func TestNewRefuses(t *testing.T) {
	for _, c := range []struct {
		room, segment, limit int
		master               string
	}{
		{-1, 1, 1, master}, {math.MinInt, 1, 1, master}, {api.MaxRoom + 1, 1, 1, master}, {math.MaxInt, 1, 1, master},
		{1, 0, 1, master}, {1, -1, 1, master}, {1, math.MinInt, 1, master}, {1, api.MaxRoom + 1, 1, master}, {1, math.MaxInt, 1, master},
		{1, 1, -1, master}, {1, 1, math.MinInt, master}, {1, 1, api.MaxLimit + 1, master}, {1, 1, math.MaxInt, master},
		{1, 1, 1, ""}, {1, 1, 1, master[1:]}, {1, 1, 1, master + "x"}, {1, 1, 1, master + master},
	} {
		if s, e := coffer.New(c.room, c.segment, c.limit, c.master); s != nil || e != api.ErrArg {
			t.Errorf("P8: New(%d, %d, %d, %d bytes): %v, %d", c.room, c.segment, c.limit, len(c.master), s, e)
		}
	}
}

func TestNewTakesItsBounds(t *testing.T) {
	for _, room := range []int{0, 1, api.MaxRoom} {
		for _, segment := range []int{1, 2, api.MaxRoom} {
			for _, limit := range []int{0, 1, api.MaxLimit} {
				s := newStore(t, room, segment, limit)
				wantDisk(t, "P8: new", s, 0, nil)
				want(t, "P8: closed: Close", s.Close(), api.ErrClosed)
				want(t, "P14: Open", s.Open(), api.OK)
				wantPairs(t, "P14: new", s, pairs{})
			}
		}
	}
}

// Closed comes ahead of all other errors.
func TestClosed(t *testing.T) {
	long := strings.Repeat("x", 99)
	closed := func(s *coffer.Store, when string) {
		t.Helper()
		for _, key := range []string{"", "a", long} {
			want(t, when+": Put", s.Put(key, long), api.ErrClosed)
			want(t, when+": Put", s.Put(key, ""), api.ErrClosed)
			want(t, when+": Delete", s.Delete(key), api.ErrClosed)
			if value, e := s.Get(key); value != "" || e != api.ErrClosed {
				t.Errorf("%s: Get: %q, %d", when, value, e)
			}
		}
		if keys, e := s.Keys(); len(keys) != 0 || e != api.ErrClosed {
			t.Errorf("%s: Keys: %q, %d", when, keys, e)
		}
		want(t, when+": Sync", s.Sync(), api.ErrClosed)
		want(t, when+": Rotate", s.Rotate(), api.ErrClosed)
		want(t, when+": Snapshot", s.Snapshot(), api.ErrClosed)
		want(t, when+": Close", s.Close(), api.ErrClosed)
	}
	s := newStore(t, much, 100, 9)
	closed(s, "P9: new")
	want(t, "P14: Open", s.Open(), api.OK)
	synced(t, s, "a", "1")
	for range api.MaxBatch {
		want(t, "P9: Put", s.Put("b", "2"), api.OK)
	}
	want(t, "P9: Close", s.Close(), api.OK)
	closed(s, "P9: behind Close")
	if s.Count() != 1 || len(s.Image()) != 1 {
		t.Errorf("P9: of a closed store: Count %d, Image %s", s.Count(), sizes(s.Image()))
	}
	want(t, "P14: Open", s.Open(), api.OK)
	wantPairs(t, "P9: what was pending is lost", s, pairs{"a": "1"})
	s.Crash(0, 0)
	s.Put("b", "2")
	want(t, "P15: Sync", s.Sync(), api.ErrCrashed)
	closed(s, "P15: behind a crash")
	s.Load(nil)
	want(t, "P14: Open", s.Open(), api.ErrTampered)
	closed(s, "P14: behind ErrTampered")
}

func TestOpenTwice(t *testing.T) {
	s := openStore(t, much, 100, 9)
	s.Put("a", "1")
	want(t, "P14: Open", s.Open(), api.ErrOpen)
	wantPairs(t, "P14: still open", s, pairs{"a": "1"})
}

// Keys and values at their bounds and one beyond.
func TestTooLarge(t *testing.T) {
	s := openStore(t, much, 100, 9)
	key, value := strings.Repeat("k", api.MaxKey), strings.Repeat("v", api.MaxValue)
	for _, bad := range []string{"", key + "k", strings.Repeat(key, 999)} {
		want(t, "P9: Put", s.Put(bad, ""), api.ErrTooLarge)
		want(t, "P9: Put", s.Put(bad, value+"v"), api.ErrTooLarge)
		want(t, "P9: Delete", s.Delete(bad), api.ErrTooLarge)
		if got, e := s.Get(bad); got != "" || e != api.ErrTooLarge {
			t.Errorf("P9: Get(%d bytes): %q, %d", len(bad), got, e)
		}
	}
	want(t, "P9: Put", s.Put("k", value+"v"), api.ErrTooLarge)
	want(t, "P9: Put", s.Put(key, strings.Repeat(value, 999)), api.ErrTooLarge)
	wantPairs(t, "P9: nothing is pending", s, pairs{})
	want(t, "P9: Put", s.Put(key, value), api.OK)
	want(t, "P9: Put", s.Put("k", ""), api.OK)
	wantPairs(t, "P9: pending", s, pairs{key: value, "k": ""})
	want(t, "P9: Delete", s.Delete(key), api.OK)
	wantPairs(t, "P9: pending", s, pairs{"k": ""})
	want(t, "P11: Sync", s.Sync(), api.OK)
	reopened(t, s)
	wantPairs(t, "P14: behind Sync", s, pairs{"k": ""})
}

func TestFull(t *testing.T) {
	s := openStore(t, much, 100, 9)
	for i := range api.MaxBatch {
		if i%2 == 0 {
			want(t, "P9: Put", s.Put("a", "1"), api.OK)
		} else {
			want(t, "P9: Delete", s.Delete("a"), api.OK)
		}
	}
	for range 3 {
		want(t, "P9: Put", s.Put("b", "1"), api.ErrFull)
		want(t, "P9: Delete", s.Delete("b"), api.ErrFull)
	}
	want(t, "P9: Put: too large comes first", s.Put("", "1"), api.ErrTooLarge)
	want(t, "P9: Delete: too large comes first", s.Delete(""), api.ErrTooLarge)
	if _, e := s.Get("b"); e != api.ErrNone {
		t.Errorf("P9: Get: %d", e)
	}
	want(t, "P11: Sync", s.Sync(), api.OK)
	want(t, "P9: Put", s.Put("b", "1"), api.OK)
	wantPairs(t, "P9: behind Sync", s, pairs{"b": "1"})
}

// The last change of a key counts, pending or not.
func TestStateWithPending(t *testing.T) {
	s := openStore(t, much, 1000, 9)
	synced(t, s, "a", "1")
	synced(t, s, "b", "2")
	s.Put("a", "3")
	s.Put("a", "")
	s.Delete("b")
	s.Delete("none")
	s.Delete("c")
	s.Put("c", "4")
	s.Put("d", "5")
	s.Delete("d")
	s.Put("b", "6")
	s.Delete("b")
	end := pairs{"a": "", "c": "4"}
	check := func(what string) {
		t.Helper()
		wantPairs(t, what, s, end)
		for _, key := range []string{"b", "d", "none", "e"} {
			if got, e := s.Get(key); got != "" || e != api.ErrNone {
				t.Errorf("%s: Get(%q): %q, %d", what, key, got, e)
			}
		}
	}
	check("P9: pending")
	want(t, "P11: Sync", s.Sync(), api.OK)
	check("P11: acknowledged")
	reopened(t, s)
	check("P14: opened again")
}

// Keys come in the order of their bytes, not of the letters that these may be.
func TestKeysAreSorted(t *testing.T) {
	s := openStore(t, much, 1000, 9)
	sorted := []string{"\x00", "\x00\x00", "\x00a", "A", "B", "a", "a\x00", "aa", "ab", "b", "z", "\x7f", "\x80", "\xc3\xa9", "\xff", "\xff\x00", "\xff\xff"}
	all := pairs{}
	for i := range sorted {
		key := sorted[(i*7)%len(sorted)]
		all[key] = "of " + key
		want(t, "P9: Put", s.Put(key, all[key]), api.OK)
		if i == 8 {
			want(t, "P11: Sync", s.Sync(), api.OK)
		}
	}
	keys, _ := s.Keys()
	if strings.Join(keys, ",") != strings.Join(sorted, ",") {
		t.Errorf("P9: Keys: %q, want %q", keys, sorted)
	}
	wantPairs(t, "P9: Keys", s, all)
}
