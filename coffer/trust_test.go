package coffer_test

import (
	"fmt"
	"math"
	"slices"
	"strings"
	"testing"

	"coffer/api"
	"coffer/coffer"
)

// Going back to any earlier disk behind which something was acknowledged.
func TestEarlierDisks(t *testing.T) {
	s := newStore(t, much, 120, 99)
	images := [][]api.File{nil}
	for i := range 12 {
		want(t, "Open", s.Open(), api.OK)
		synced(t, s, fmt.Sprint("k", i%5), fmt.Sprint(i))
		s.Close()
		images = append(images, s.Image())
		for j, image := range images {
			want(t, "P16: Load", s.Load(image), api.OK)
			if j < len(images)-1 {
				want(t, fmt.Sprintf("P18: disk %d behind %d Syncs", j, i+1), s.Open(), api.ErrTampered)
			}
		}
	}
	want(t, "P18: the last disk", s.Open(), api.OK)
}

// An earlier disk behind which nothing was acknowledged is none: with nothing
// pending, with what was lost, or with what was refused.
func TestEarlierDisksThatAreTheSame(t *testing.T) {
	s := openStore(t, much, 100, 1)
	synced(t, s, "a", "1")
	s.Close()
	image := s.Image()
	for _, do := range []func(){
		func() {},
		func() { s.Sync() },
		func() { s.Put("b", "2") },
		func() { s.Put("b", "2"); s.Sync() },
	} {
		want(t, "P14: Open", s.Open(), api.OK)
		do()
		s.Close()
		want(t, "P16: Load", s.Load(image), api.OK)
		want(t, "P18: nothing was acknowledged", s.Open(), api.OK)
		wantPairs(t, "P18: nothing was acknowledged", s, pairs{"a": "1"})
		s.Close()
	}
}

// What a crash interrupted was not acknowledged before the next Open: a stranger
// may take it away until then, but not afterwards.
func TestInterruptedRecordTakenAway(t *testing.T) {
	s := openStore(t, much, 1000, 9)
	synced(t, s, "a", "1")
	before := s.Image()
	interrupt := func() []api.File {
		s.Crash(1, math.MaxInt)
		s.Put("b", "2")
		want(t, "P15: Sync", s.Sync(), api.ErrCrashed)
		return s.Image()
	}
	first := interrupt()
	s.Load(before)
	want(t, "P14: the interrupted record is gone", s.Open(), api.OK)
	wantPairs(t, "P17: Open", s, pairs{"a": "1"})
	second := interrupt()
	want(t, "P14: Open", s.Open(), api.OK)
	wantPairs(t, "P17: Open", s, pairs{"a": "1", "b": "2"})
	s.Close()
	s.Load(before)
	want(t, "P18: without what was acknowledged", s.Open(), api.ErrTampered)
	s.Load(first)
	want(t, "P14: with another record in its place", s.Open(), api.ErrTampered)
	s.Load(second)
	want(t, "P14: with what was acknowledged", s.Open(), api.OK)
}

// Another store's disk, of another master or of the same.
func TestAnotherStoresDisk(t *testing.T) {
	a := openStore(t, much, 100, 9)
	synced(t, a, "a", "1")
	a.Close()
	b, _ := coffer.New(much, 100, 9, strings.Repeat("b", 32))
	b.Load(a.Image())
	want(t, "P14: a disk under another master", b.Open(), api.ErrTampered)
	c := openStore(t, much, 100, 9)
	synced(t, c, "a", "2")
	c.Close()
	c.Load(a.Image())
	want(t, "P14: another disk under the same master", c.Open(), api.ErrTampered)
}

// seen: of all that was ever on a disk, by key and nonce (the head's first eight
// bytes have the epoch), what stood behind the nonce.
type seen map[string]string

// note fails the test if a nonce served for two records. Torn ones are held
// against as much as is there.
func (n seen) note(t *testing.T, files []api.File) {
	t.Helper()
	for _, f := range files {
		rest := f.Bytes[min(9, len(f.Bytes)):]
		for len(rest) >= 10 {
			size := min(len(rest), 42+int(rest[8])<<8+int(rest[9]))
			nonce, text := rest[:8], rest[8:size]
			shared := min(len(text), len(n[nonce]))
			if text[:shared] != n[nonce][:shared] {
				t.Errorf("P18: two records with the nonce %x", nonce)
			}
			if len(text) > len(n[nonce]) {
				n[nonce] = text
			}
			rest = rest[size:]
		}
	}
}

// A Sync that was interrupted, or had no room, is tried again with another value.
func TestNoncesServeOnce(t *testing.T) {
	s := openStore(t, much, 100, 99)
	nonces := seen{}
	for i := range 40 {
		s.Crash(i%3, 11+i)
		s.Put("k", fmt.Sprintf("value %d", i))
		e := s.Sync()
		nonces.note(t, s.Image())
		if e == api.ErrCrashed {
			want(t, "P17: Open", s.Open(), api.OK)
		}
		nonces.note(t, s.Image())
	}
	if len(nonces) < 20 {
		t.Errorf("but %d nonces were seen", len(nonces))
	}
}

// The lengths of the files tell the lengths of keys and values, not what they
// are.
func TestLengthsTellNoContents(t *testing.T) {
	run := func(mask byte) []string {
		s := openStore(t, 3000, 150, 99)
		r := rolls{state: 5}
		var out []string
		masked := func(n int) string { return strings.Repeat(string([]byte{byte(r.below(4)) ^ mask}), n) }
		for range 60 {
			for range r.below(5) {
				key := masked(1 + r.below(api.MaxKey))
				if r.below(3) > 0 {
					s.Put(key, masked(r.below(api.MaxValue+1)))
				} else {
					s.Delete(key)
				}
			}
			if r.below(4) == 0 {
				s.Crash(r.below(4), r.below(99))
			}
			if s.Sync() == api.ErrCrashed {
				s.Open()
			}
			var lengths []int
			for _, f := range s.Image() {
				lengths = append(lengths, f.Number, len(f.Bytes))
			}
			out = append(out, fmt.Sprint(lengths, s.Count()))
		}
		return out
	}
	one := run(0)
	for _, mask := range []byte{1, 'a', 0x80, 0xff} {
		if !slices.Equal(run(mask), one) {
			t.Errorf("P18: lengths hang on contents")
		}
	}
}

// What lies on the disk does not show keys or values.
func TestDiskShowsNothing(t *testing.T) {
	s := openStore(t, much, 100, 99)
	for i := range 9 {
		synced(t, s, fmt.Sprint("secret key ", i), "a value that nobody may see")
	}
	for _, f := range s.Image() {
		if strings.Contains(f.Bytes, "secret") || strings.Contains(f.Bytes, "nobody") || strings.Contains(f.Bytes, master[:8]) {
			t.Errorf("P18: file %d shows what is in it", f.Number)
		}
	}
}
