package coffer_test

import (
	"fmt"
	"math"
	"slices"
	"strings"
	"testing"

	"coffer/api"
	"coffer/coffer"
)

// Going back to any earlier disk behind which something was acknowledged.
func TestEarlierDisks(t *testing.T) {
	s := newStore(t, much, 120, 99)
	images := [][]api.File{nil}
	for i := range 12 {
		want(t, "Open", s.Open(), api.OK)
		synced(t, s, fmt.Sprint("k", i%5), fmt.Sprint(i))
		s.Close()
		images = append(images, s.Image())
		for j, image := range images {
			want(t, "P16: Load", s.Load(image), api.OK)
			if j < len(images)-1 {
				want(t, fmt.Sprintf("P18: disk %d behind %d Syncs", j, i+1), s.Open(), api.ErrTampered)
			}
		}
	}
	want(t, "P18: the last disk", s.Open(), api.OK)
}

// The same with rotations and snapshots. A snapshot alone acknowledges nothing:
// the disk ahead of it says the same.
func TestEarlierDisksOfRotationsAndSnapshots(t *testing.T) {
	s := newStore(t, much, 120, 99)
	type earlier struct {
		count int
		files []api.File
	}
	images := []earlier{{}}
	p := pairs{}
	for i := range 16 {
		want(t, "Open", s.Open(), api.OK)
		key, value := fmt.Sprint("k", i%5), fmt.Sprint(i)
		switch i % 4 {
		case 0:
			synced(t, s, key, value)
			p[key] = value
		case 1:
			shot(t, s)
		case 2:
			rotated(t, s, 1)
		default:
			s.Put(key, value)
			p[key] = value
			shot(t, s)
		}
		s.Close()
		images = append(images, earlier{s.Count(), s.Image()})
		for j, image := range images {
			want(t, "P16: Load", s.Load(image.files), api.OK)
			if image.count < s.Count() {
				want(t, fmt.Sprintf("P18: disk %d behind call %d", j, i), s.Open(), api.ErrTampered)
				continue
			}
			want(t, fmt.Sprintf("P18: disk %d, behind which nothing was acknowledged", j), s.Open(), api.OK)
			wantPairs(t, "P18: nothing was acknowledged", s, p)
			s.Close()
		}
	}
}

// Pieces of an earlier disk among those of a later one.
func TestPiecesOfEarlierDisks(t *testing.T) {
	s := openStore(t, much, 1, 99)
	var disks [][]api.File
	p := pairs{}
	for i := range 3 {
		p[fmt.Sprint("k", i)] = strings.Repeat("v", 32)
		synced(t, s, fmt.Sprint("k", i), strings.Repeat("v", 32))
		shot(t, s)
		p["k0"] = fmt.Sprint(i)
		synced(t, s, "k0", fmt.Sprint(i))
		rotated(t, s, 1)
		disks = append(disks, s.Image())
	}
	s.Close()
	last := disks[2]
	for _, disk := range disks[:2] {
		for i := range last {
			mixed := slices.Clone(last)
			mixed[i].Bytes = disk[i].Bytes
			want(t, "P16: Load", s.Load(mixed), api.OK)
			want(t, fmt.Sprintf("P18: file %d of an earlier disk", last[i].Number), s.Open(), api.ErrTampered)
			want(t, "P16: Load", s.Load(slices.Delete(slices.Clone(last), i, i+1)), api.OK)
			want(t, fmt.Sprintf("P18: without file %d", last[i].Number), s.Open(), api.ErrTampered)
		}
	}
	want(t, "P16: Load", s.Load(last), api.OK)
	want(t, "P14: the last disk", s.Open(), api.OK)
	wantPairs(t, "P14: the last disk", s, p)
}

// One bit more or less, or any end left out, of a disk that the store itself wrote
// with all of its calls.
func TestEachByteOfADisk(t *testing.T) {
	b := shotDisk(t)
	b.Sync()
	b.Close()
	whole := b.s.Image()
	tries := 0
	check := func(what string, files []api.File) {
		if tries++; tries%900 == 0 { // the opens are at their end
			b = shotDisk(t)
			b.Sync()
			b.Close()
		}
		want(t, "P16: Load", b.s.Load(files), api.OK)
		want(t, what, b.s.Open(), api.ErrTampered)
	}
	for i, f := range whole {
		for at := range len(f.Bytes) {
			files := slices.Clone(whole)
			changed := []byte(f.Bytes)
			changed[at] ^= 1 << (at % 8)
			files[i].Bytes = string(changed)
			check(fmt.Sprintf("P14: file %d, byte %d", f.Number, at), files)
			if at > 0 {
				files[i].Bytes = f.Bytes[:at]
				check(fmt.Sprintf("P18: file %d cut to %d", f.Number, at), files)
			}
		}
	}
	b.s.Load(whole)
	want(t, "P14: the disk as it was", b.s.Open(), api.OK)
	wantPairs(t, "P14: the disk as it was", b.s, b.w.acked)
}

// An earlier disk behind which nothing was acknowledged is none: with nothing
// pending, with what was lost, or with what was refused.
func TestEarlierDisksThatAreTheSame(t *testing.T) {
	s := openStore(t, much, 100, 1)
	synced(t, s, "a", "1")
	s.Close()
	image := s.Image()
	for _, do := range []func(){
		func() {},
		func() { s.Sync() },
		func() { s.Put("b", "2") },
		func() { s.Put("b", "2"); s.Sync() },
	} {
		want(t, "P14: Open", s.Open(), api.OK)
		do()
		s.Close()
		want(t, "P16: Load", s.Load(image), api.OK)
		want(t, "P18: nothing was acknowledged", s.Open(), api.OK)
		wantPairs(t, "P18: nothing was acknowledged", s, pairs{"a": "1"})
		s.Close()
	}
}

// What a crash interrupted was not acknowledged before the next Open: a stranger
// may take it away until then, but not afterwards.
func TestInterruptedRecordTakenAway(t *testing.T) {
	s := openStore(t, much, 1000, 9)
	synced(t, s, "a", "1")
	before := s.Image()
	interrupt := func() []api.File {
		s.Crash(1, math.MaxInt)
		s.Put("b", "2")
		want(t, "P15: Sync", s.Sync(), api.ErrCrashed)
		return s.Image()
	}
	first := interrupt()
	s.Load(before)
	want(t, "P14: the interrupted record is gone", s.Open(), api.OK)
	wantPairs(t, "P17: Open", s, pairs{"a": "1"})
	second := interrupt()
	want(t, "P14: Open", s.Open(), api.OK)
	wantPairs(t, "P17: Open", s, pairs{"a": "1", "b": "2"})
	s.Close()
	s.Load(before)
	want(t, "P18: without what was acknowledged", s.Open(), api.ErrTampered)
	s.Load(first)
	want(t, "P14: with another record in its place", s.Open(), api.ErrTampered)
	s.Load(second)
	want(t, "P14: with what was acknowledged", s.Open(), api.OK)
}

// Another store's disk, of another master or of the same.
func TestAnotherStoresDisk(t *testing.T) {
	a := openStore(t, much, 100, 9)
	synced(t, a, "a", "1")
	a.Close()
	b, _ := coffer.New(much, 100, 9, strings.Repeat("b", 32))
	b.Load(a.Image())
	want(t, "P14: a disk under another master", b.Open(), api.ErrTampered)
	c := openStore(t, much, 100, 9)
	synced(t, c, "a", "2")
	c.Close()
	c.Load(a.Image())
	want(t, "P14: another disk under the same master", c.Open(), api.ErrTampered)
}

// seen: of all that was ever on a disk, by nonce (which has the epoch, and so
// tells the key too), what was encrypted with it.
type seen map[string]string

// note fails the test if a nonce served for two records or parts.
func (n seen) note(t *testing.T, files []api.File) {
	t.Helper()
	for _, f := range files {
		switch {
		case f.Number > 0 && f.Number < 10000:
			n.noteSegment(t, f.Bytes)
		case f.Number > 10000 && files[0].Number == 0:
			n.noteSnapshot(t, files[0].Bytes, f)
		}
	}
}

// noteText holds a text against what was seen with its nonce: as much of it as
// is there, for it may be torn.
func (n seen) noteText(t *testing.T, nonce, text string) {
	t.Helper()
	shared := min(len(text), len(n[nonce]))
	if text[:shared] != n[nonce][:shared] {
		t.Errorf("P18: two texts with the nonce %x", nonce)
	}
	if len(text) > len(n[nonce]) {
		n[nonce] = text
	}
}

func (n seen) noteSegment(t *testing.T, bytes string) {
	t.Helper()
	rest := bytes[min(9, len(bytes)):]
	for len(rest) >= 10 {
		size := min(len(rest), 42+int(rest[8])<<8+int(rest[9]))
		n.noteText(t, rest[:8], rest[8:size])
		rest = rest[size:]
	}
}

// noteSnapshot takes the nonces from the manifest, if that names the file.
func (n seen) noteSnapshot(t *testing.T, manifest string, f api.File) {
	t.Helper()
	if manifest[14:16] != two(f.Number) || manifest[16:20] != four(len(f.Bytes)) {
		return
	}
	for i := 0; i*api.PartSize < len(f.Bytes); i++ {
		nonce := "C" + manifest[1:4] + manifest[8:10] + two(i)
		n.noteText(t, nonce, f.Bytes[i*api.PartSize:min(len(f.Bytes), (i+1)*api.PartSize)])
	}
}

// A Snapshot is taken again and again of other states, in one open and in the
// next, in one epoch and in the next, and where one had no room or was
// interrupted.
func TestNoncesOfPartsServeOnce(t *testing.T) {
	s := openStore(t, 1500, 100, 999)
	nonces := seen{}
	for i := range 60 {
		s.Put("k", fmt.Sprintf("value %d", i))
		s.Put("l", strings.Repeat(fmt.Sprint(i%10), 32))
		s.Put(fmt.Sprint("m", i%3), strings.Repeat(fmt.Sprint(i%10), 32))
		if i%7 == 3 {
			s.Crash(i%11, i)
		}
		e := s.Snapshot()
		nonces.note(t, s.Image())
		if e == api.ErrCrashed {
			want(t, "P17: Open", s.Open(), api.OK)
		}
		if i%13 == 5 {
			s.Rotate()
		}
		if i%9 == 8 {
			reopened(t, s)
		}
		nonces.note(t, s.Image())
	}
	parts := 0
	for nonce := range nonces {
		if nonce[0] == 'C' {
			parts++
		}
	}
	if parts < 60 {
		t.Errorf("but %d nonces of parts were seen", parts)
	}
}

// A Sync that was interrupted, or had no room, is tried again with another value.
func TestNoncesServeOnce(t *testing.T) {
	s := openStore(t, much, 100, 99)
	nonces := seen{}
	for i := range 40 {
		s.Crash(i%3, 11+i)
		s.Put("k", fmt.Sprintf("value %d", i))
		e := s.Sync()
		nonces.note(t, s.Image())
		if e == api.ErrCrashed {
			want(t, "P17: Open", s.Open(), api.OK)
		}
		nonces.note(t, s.Image())
	}
	if len(nonces) < 20 {
		t.Errorf("but %d nonces were seen", len(nonces))
	}
}

// The lengths of the files tell the lengths of keys and values, not what they
// are.
func TestLengthsTellNoContents(t *testing.T) {
	run := func(mask byte) []string {
		s := openStore(t, 3000, 150, 99)
		r := rolls{state: 5}
		var out []string
		masked := func(n int) string { return strings.Repeat(string([]byte{byte(r.below(4)) ^ mask}), n) }
		for range 60 {
			for range r.below(5) {
				key := masked(1 + r.below(api.MaxKey))
				if r.below(3) > 0 {
					s.Put(key, masked(r.below(api.MaxValue+1)))
				} else {
					s.Delete(key)
				}
			}
			if r.below(4) == 0 {
				s.Crash(r.below(4), r.below(99))
			}
			call := []func() api.Errno{s.Sync, s.Sync, s.Rotate, s.Snapshot}[r.below(4)]
			if call() == api.ErrCrashed {
				s.Open()
			}
			var lengths []int
			for _, f := range s.Image() {
				lengths = append(lengths, f.Number, len(f.Bytes))
			}
			out = append(out, fmt.Sprint(lengths, s.Count()))
		}
		return out
	}
	one := run(0)
	for _, mask := range []byte{1, 'a', 0x80, 0xff} {
		if !slices.Equal(run(mask), one) {
			t.Errorf("P18: lengths hang on contents")
		}
	}
}

// What lies on the disk does not show keys or values.
func TestDiskShowsNothing(t *testing.T) {
	s := openStore(t, much, 100, 99)
	for i := range 9 {
		synced(t, s, fmt.Sprint("secret key ", i), "a value that nobody may see")
	}
	log := s.Image()
	shot(t, s)
	for _, f := range append(log, s.Image()...) {
		if strings.Contains(f.Bytes, "secret") || strings.Contains(f.Bytes, "nobody") || strings.Contains(f.Bytes, master[:8]) {
			t.Errorf("P18: file %d shows what is in it", f.Number)
		}
	}
}
