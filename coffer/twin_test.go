package coffer_test

import (
	"fmt"
	"maps"
	"math"
	"slices"
	"strings"
	"testing"

	"coffer/api"
	"coffer/coffer"
)

// twin: a store that nobody loads anything into, as the document says it,
// written with the scribe. What a store answers, and each byte on its disk, is
// held against it.
type twin struct {
	room, segment, limit int

	files   map[int]string
	flushed map[int]int
	after   int // steps ahead of the crash; below 0: none is to come
	torn    int

	count, opens int
	mark         string

	acked  pairs
	epoch  int     // of what is acknowledged
	sheet  sheet   // of the manifest; all 0, if there is none
	flight *flight // nil, if no crash interrupted a record

	open    bool
	with    pairs // acknowledged or pending
	pending []string
	written int // 0, if no segment is
	shots   int
}

// flight: a record that was being written.
type flight struct {
	number int
	before int // the bytes of the segment ahead of it
	behind int
	tag    string
	then   func() // what it does when it is acknowledged
}

func newTwin(room, segment, limit int) *twin {
	return &twin{room: room, segment: segment, limit: limit, files: map[int]string{}, flushed: map[int]int{}, after: -1, mark: zeros, acked: pairs{}}
}

// steps does one step behind the other, and tells whether the machine went on.
func (w *twin) steps(all ...func()) bool {
	for _, step := range all {
		if w.after == 0 {
			w.stop()
			return false
		}
		w.after = max(w.after-1, -1)
		step()
	}
	return true
}

func (w *twin) stop() {
	w.after, w.open = -1, false
	for number, bytes := range w.files {
		left := w.flushed[number] + min(w.torn, len(bytes)-w.flushed[number])
		w.lay(number, bytes[:left], left)
	}
}

func (w *twin) lay(number int, bytes string, flushed int) {
	w.files[number], w.flushed[number] = bytes, flushed
	if bytes == "" {
		delete(w.files, number)
		delete(w.flushed, number)
	}
}

func (w *twin) append(number int, bytes string) func() {
	return func() { w.lay(number, w.files[number]+bytes, w.flushed[number]) }
}

func (w *twin) flush(number int) func() {
	return func() { w.lay(number, w.files[number], len(w.files[number])) }
}

func (w *twin) replace(number int, bytes string) func() {
	return func() { w.lay(number, bytes, len(bytes)) }
}

// removals are the steps that remove the files which are not kept.
func (w *twin) removals(kept func(number int) bool) []func() {
	var all []func()
	for _, number := range slices.Sorted(maps.Keys(w.files)) {
		if !kept(number) {
			all = append(all, w.replace(number, ""))
		}
	}
	return all
}

func (w *twin) image() []api.File {
	var files []api.File
	for _, number := range slices.Sorted(maps.Keys(w.files)) {
		files = append(files, api.File{Number: number, Bytes: w.files[number]})
	}
	return files
}

func (w *twin) Open() api.Errno {
	if w.open {
		return api.ErrOpen
	}
	if w.opens == api.MaxOpens {
		return api.ErrExhausted
	}
	w.opens++
	var mend []func()
	tornAway := 0
	if f := w.flight; f != nil {
		switch size := len(w.files[f.number]); {
		case size == f.behind:
			w.land()
		case size > f.before:
			mend = append(mend, w.replace(f.number, w.files[f.number][:f.before]))
			if f.before == 0 {
				tornAway = f.number
			}
		}
	}
	mend = append(mend, w.removals(func(number int) bool {
		snapshot := number == w.sheet.file && w.sheet.length > 0
		return number == 0 || number == tornAway || snapshot || number > w.sheet.base && number < 10000
	})...)
	if !w.steps(mend...) {
		return api.ErrCrashed
	}
	w.flight, w.pending, w.shots, w.written = nil, nil, 0, 0
	w.open, w.with = true, maps.Clone(w.acked)
	for number := range w.files {
		if number < 10000 && number > w.sheet.base {
			w.written = max(w.written, number)
		}
	}
	return api.OK
}

func (w *twin) Close() api.Errno {
	if !w.open {
		return api.ErrClosed
	}
	w.open = false
	return api.OK
}

func (w *twin) change(key, value, text string) api.Errno {
	switch {
	case !w.open:
		return api.ErrClosed
	case key == "" || len(key) > api.MaxKey || len(value) > api.MaxValue:
		return api.ErrTooLarge
	case len(w.pending) == api.MaxBatch:
		return api.ErrFull
	}
	w.pending = append(w.pending, text)
	return api.OK
}

func (w *twin) Put(key, value string) api.Errno {
	e := w.change(key, value, putText(key, value))
	if e == api.OK {
		w.with[key] = value
	}
	return e
}

func (w *twin) Delete(key string) api.Errno {
	e := w.change(key, "", deleteText(key))
	if e == api.OK {
		delete(w.with, key)
	}
	return e
}

// land acknowledges the record that was being written.
func (w *twin) land() {
	w.count++
	w.mark = w.flight.tag
	w.flight.then()
	w.flight = nil
}

func (w *twin) write(kind string, epoch int, plain string, then func()) api.Errno {
	if w.count == w.limit {
		return api.ErrExhausted
	}
	number, text := w.written, ""
	if number == 0 || len(w.files[number]) >= w.segment {
		number = max(w.written, w.sheet.base) + 1
		text = first(number, w.count+1)
	}
	record, tag := entry{kind: kind, epoch: epoch, opens: w.opens, count: w.count + 1, plain: plain, ahead: w.mark}.record()
	text += record
	if usedBy(w.image())+len(text) > w.room {
		return api.ErrNoSpace
	}
	before := len(w.files[number])
	w.flight = &flight{number: number, before: before, behind: before + len(text), tag: tag, then: then}
	if !w.steps(w.append(number, text), w.flush(number)) {
		return api.ErrCrashed
	}
	w.written = number
	w.land()
	return api.OK
}

func (w *twin) Sync() api.Errno {
	if !w.open {
		return api.ErrClosed
	}
	if len(w.pending) == 0 {
		return api.OK
	}
	with := maps.Clone(w.with)
	e := w.write("R", w.epoch, strings.Join(w.pending, ""), func() { w.acked = with })
	if e == api.OK {
		w.pending = nil
	}
	return e
}

func (w *twin) Rotate() api.Errno {
	if e := w.Sync(); e != api.OK {
		return e
	}
	if w.epoch == api.MaxEpoch {
		return api.ErrExhausted
	}
	return w.write("K", w.epoch+1, "", func() { w.epoch++ })
}

func (w *twin) Snapshot() api.Errno {
	if e := w.Sync(); e != api.OK {
		return e
	}
	if w.shots == api.MaxShots {
		return api.ErrExhausted
	}
	plain := snapshotText(w.acked)
	next := sheet{epoch: w.epoch, opens: w.opens, count: w.count, shots: w.shots, base: max(w.written, w.sheet.base), file: 10001, length: len(plain), last: w.mark}
	if w.sheet.file == 10001 {
		next.file = 10002
	}
	manifest, snapshot := next.shot(plain)
	used := usedBy(w.image()) + len(plain)
	if w.files[0] == "" {
		used += 116
	}
	if len(plain) > 64*256 || used > w.room {
		return api.ErrNoSpace
	}
	w.shots++
	var all []func()
	if plain != "" {
		all = append(all, w.append(next.file, snapshot.Bytes), w.flush(next.file))
	}
	all = append(all, func() {
		w.lay(0, manifest.Bytes, len(manifest.Bytes))
		w.sheet = next
	})
	all = append(all, w.removals(func(number int) bool { return number == 0 || number == next.file })...)
	if !w.steps(all...) {
		return api.ErrCrashed
	}
	w.written = 0
	return api.OK
}

func (w *twin) Crash(after, torn int) api.Errno {
	w.after, w.torn = after, torn
	return api.OK
}

// both: a store and its twin, of which the same is called.
type both struct {
	t *testing.T
	s *coffer.Store
	w *twin
}

func newBoth(t *testing.T, room, segment, limit int) both {
	t.Helper()
	return both{t: t, s: newStore(t, room, segment, limit), w: newTwin(room, segment, limit)}
}

// same fails the test if the store has answered otherwise than its twin, or is
// now another.
func (b both) same(call string, got, want api.Errno) api.Errno {
	b.t.Helper()
	if got != want {
		b.t.Fatalf("%s: %d, want %d", call, got, want)
	}
	if !slices.Equal(b.s.Image(), b.w.image()) || b.s.Count() != b.w.count {
		b.t.Fatalf("behind %s: the disk is %s, the count %d, want %s, %d", call, sizes(b.s.Image()), b.s.Count(), sizes(b.w.image()), b.w.count)
	}
	if b.w.open {
		wantPairs(b.t, "behind "+call, b.s, b.w.with)
	} else if _, e := b.s.Keys(); e != api.ErrClosed {
		b.t.Fatalf("behind %s: the store is open: Keys: %d", call, e)
	}
	return got
}

func (b both) Open() api.Errno {
	b.t.Helper()
	return b.same("Open", b.s.Open(), b.w.Open())
}

func (b both) Close() api.Errno {
	b.t.Helper()
	return b.same("Close", b.s.Close(), b.w.Close())
}

func (b both) Put(key, value string) api.Errno {
	b.t.Helper()
	return b.same("Put", b.s.Put(key, value), b.w.Put(key, value))
}

func (b both) Delete(key string) api.Errno {
	b.t.Helper()
	return b.same("Delete", b.s.Delete(key), b.w.Delete(key))
}

func (b both) Sync() api.Errno {
	b.t.Helper()
	return b.same("Sync", b.s.Sync(), b.w.Sync())
}

func (b both) Rotate() api.Errno {
	b.t.Helper()
	return b.same("Rotate", b.s.Rotate(), b.w.Rotate())
}

func (b both) Snapshot() api.Errno {
	b.t.Helper()
	return b.same("Snapshot", b.s.Snapshot(), b.w.Snapshot())
}

func (b both) Crash(after, torn int) api.Errno {
	b.t.Helper()
	return b.same("Crash", b.s.Crash(after, torn), b.w.Crash(after, torn))
}

// tally: how often a call gave an answer.
type tally map[string]int

func (a tally) note(call string, e api.Errno) { a[fmt.Sprint(call, " ", e)]++ }

// anyCall does what the rolls say.
func (b both) anyCall(r *rolls, answers tally) {
	switch r.below(40) {
	case 0, 1, 2, 3:
		answers.note("Open", b.Open())
	case 4:
		answers.note("Close", b.Close())
	case 5, 6, 7, 8, 9, 10:
		answers.note("Sync", b.Sync())
	case 11:
		answers.note("Rotate", b.Rotate())
	case 12, 13, 14, 15:
		answers.note("Snapshot", b.Snapshot())
	case 16, 17, 18:
		b.Crash(r.below(12), []int{0, r.below(60), r.below(300), math.MaxInt}[r.below(4)])
	case 19, 20, 21, 22, 23, 24, 25, 26:
		answers.note("Delete", b.Delete(fmt.Sprint("key", r.below(12))))
	default:
		answers.note("Put", b.Put(fmt.Sprint("key", r.below(12)), fmt.Sprintf("%0*d", 1+r.below(20), r.below(1000))))
	}
}

// Whatever is called, and whenever the machine stops: the store is what its twin
// is. Open finds what was acknowledged, or that and the whole batch that was
// interrupted; and no nonce serves twice.
func TestWhateverIsCalled(t *testing.T) {
	answers := tally{}
	for seed := range 80 {
		r := &rolls{state: uint64(seed)}
		b := newBoth(t, 200+r.below(3000), 1+r.below(400), r.below(200))
		nonces := seen{}
		for range 600 {
			b.anyCall(r, answers)
			nonces.note(t, b.s.Image())
			if t.Failed() {
				t.Fatalf("seed %d", seed)
			}
		}
	}
	for _, answer := range []string{"Open 0", "Open 4", "Open 12", "Close 0", "Sync 0", "Sync 5", "Sync 9", "Sync 10", "Sync 12",
		"Rotate 0", "Rotate 5", "Rotate 9", "Rotate 10", "Rotate 12", "Snapshot 0", "Snapshot 5", "Snapshot 9", "Snapshot 10", "Snapshot 12"} {
		if answers[answer] < 10 {
			t.Errorf("%s was answered %d times: too few to tell anything", answer, answers[answer])
		}
	}
}
