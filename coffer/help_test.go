package coffer_test

import (
	"maps"
	"slices"
	"testing"

	"coffer/api"
	"coffer/coffer"
)

// master: a key that is no UTF-8, with the bytes 0 and 255.
const master = "\x00master key of 32 bytes\xff\xfe+-*/=;:"

const much = api.MaxRoom

// newStore is a store that is closed.
func newStore(t *testing.T, room, segment, limit int) *coffer.Store {
	t.Helper()
	s, e := coffer.New(room, segment, limit, master)
	if s == nil || e != api.OK {
		t.Fatalf("P8: New(%d, %d, %d): %v, %d", room, segment, limit, s, e)
	}
	return s
}

// openStore is a store that is open.
func openStore(t *testing.T, room, segment, limit int) *coffer.Store {
	t.Helper()
	s := newStore(t, room, segment, limit)
	want(t, "Open", s.Open(), api.OK)
	return s
}

// want fails the test if a call did not answer this.
func want(t *testing.T, call string, got, want api.Errno) {
	t.Helper()
	if got != want {
		t.Errorf("%s: %d, want %d", call, got, want)
	}
}

// synced puts and syncs.
func synced(t *testing.T, s *coffer.Store, key, value string) {
	t.Helper()
	want(t, "Put", s.Put(key, value), api.OK)
	want(t, "Sync", s.Sync(), api.OK)
}

// reopened closes and opens.
func reopened(t *testing.T, s *coffer.Store) {
	t.Helper()
	want(t, "Close", s.Close(), api.OK)
	want(t, "Open", s.Open(), api.OK)
}

type pairs map[string]string

// wantPairs fails the test if the store has other keys and values.
func wantPairs(t *testing.T, what string, s *coffer.Store, want pairs) {
	t.Helper()
	keys, e := s.Keys()
	if sorted := slices.Sorted(maps.Keys(want)); e != api.OK || !slices.Equal(keys, sorted) {
		t.Errorf("%s: Keys: %q, %d, want %q", what, keys, e, sorted)
	}
	for key, value := range want {
		if got, e := s.Get(key); e != api.OK || got != value {
			t.Errorf("%s: Get(%q): %q, %d, want %q", what, key, got, e, value)
		}
	}
}

// wantDisk fails the test if the disk has other files, or the count is another.
func wantDisk(t *testing.T, what string, s *coffer.Store, count int, want []api.File) {
	t.Helper()
	if got := s.Image(); !slices.Equal(got, want) {
		t.Errorf("%s: the disk is %s, want %s", what, sizes(got), sizes(want))
	}
	if got := s.Count(); got != count {
		t.Errorf("%s: the count is %d, want %d", what, got, count)
	}
}

// wantSizes fails the test if the files have other numbers and lengths.
func wantSizes(t *testing.T, what string, s *coffer.Store, want ...int) {
	t.Helper()
	var got []int
	for _, f := range s.Image() {
		got = append(got, f.Number, len(f.Bytes))
	}
	if !slices.Equal(got, want) {
		t.Errorf("%s: the files and their lengths are %v, want %v", what, got, want)
	}
}

// rolls: numbers in an uneven order that hangs on the first state alone.
type rolls struct{ state uint64 }

func (r *rolls) below(n int) int {
	r.state = r.state*6364136223846793005 + 1442695040888963407
	return int(r.state>>33) % n
}
