package coffer_test

import (
	"fmt"
	"math"
	"slices"
	"strings"
	"testing"

	"coffer/api"
)

func strange(numbers ...int) []api.File {
	var files []api.File
	for _, number := range numbers {
		files = append(files, api.File{Number: number, Bytes: fmt.Sprint("strange ", number)})
	}
	return files
}

// among puts files together, in the order of their numbers.
func among(lists ...[]api.File) []api.File {
	all := slices.Concat(lists...)
	slices.SortFunc(all, func(a, b api.File) int { return a.Number - b.Number })
	return all
}

// Files that are nobody's are removed, whatever their numbers.
func TestOpenRemovesStrangeFiles(t *testing.T) {
	c := longChain()
	for name, strangers := range map[string][]api.File{
		"one segment":             strange(3, 7, 9999, 10000, 10001, 10002, 10003, math.MaxInt),
		"three segments":          strange(5, 77, 10002),
		"an empty manifest":       strange(1, 2, 3, 4, 7, 10001, 10002),
		"a manifest and segments": strange(1, 2, 6, 7, 11, 9999, 10000, 10001, 10003, 1<<40),
		"a manifest alone":        strange(1, 40, 41, 43, 10000, 10002, 10003),
	} {
		files := disksOf(c)[name]
		wantOpens(t, name+" and strange files", c, 6, among(files, strangers), 6, stateAt(6), files)
	}
}

// The torn segment first, then the strange files in the order of their numbers:
// the machine stops ahead of each of these steps.
func TestOpenMendsStepByStep(t *testing.T) {
	c := longChain()
	c.batch(putText("f", "7"))
	files := disksOf(c)["a manifest and segments"]
	strangers := strange(1, 7, 12, 10001, 10003)
	torn := slices.Clone(files)
	torn[2].Bytes += c.records[6][:20]
	tornNew := slices.Insert(slices.Clone(files), 3, api.File{Number: 10, Bytes: "S\x00\x00"})
	for what, broken := range map[string][]api.File{"nothing torn": files, "a torn record": torn, "a torn segment": tornNew} {
		var stages [][]api.File
		if what != "nothing torn" {
			stages = append(stages, among(broken, strangers))
		}
		for i := range len(strangers) + 1 {
			stages = append(stages, among(files, strangers[i:]))
		}
		for after, stage := range stages {
			s := raised(t, c, 6)
			s.Load(among(broken, strangers))
			want(t, "P15: Crash", s.Crash(after, 0), api.OK)
			if after < len(stages)-1 {
				want(t, "P14: "+what, s.Open(), api.ErrCrashed)
				want(t, "P15: closed", s.Close(), api.ErrClosed)
				wantDisk(t, fmt.Sprintf("P14: %s, %d steps done", what, after), s, 6, stage)
				want(t, "P14: "+what+", once more", s.Open(), api.OK)
			} else {
				want(t, "P14: "+what, s.Open(), api.OK)
			}
			wantPairs(t, "P14: "+what, s, stateAt(6))
			wantDisk(t, "P14: "+what, s, 6, files)
		}
	}
}

// What a crash interrupts is counted ahead of the first step.
func TestOpenCountsAheadOfItsSteps(t *testing.T) {
	c := longChain()
	s := raised(t, c, 5)
	files := among([]api.File{c.segment(1, 1, 6)}, strange(77))
	s.Load(files)
	s.Crash(0, 0)
	want(t, "P14: Open", s.Open(), api.ErrCrashed)
	wantDisk(t, "P14: the count is one more", s, 6, files)
	s.Load([]api.File{c.segment(1, 1, 5)})
	want(t, "P14: without the record that was counted", s.Open(), api.ErrTampered)
	s.Load(files)
	want(t, "P14: Open", s.Open(), api.OK)
	wantPairs(t, "P14: Open", s, stateAt(6))
}

// The epoch, the count, the last tag, the base and the last segment that Open
// found are those that the next record goes by.
func TestWritingGoesOn(t *testing.T) {
	for name, written := range map[string]int{
		"one segment": 1, "three segments": 3, "an empty manifest": 5, "a manifest and segments": 9, "a manifest alone": 0,
	} {
		for _, full := range []bool{false, true} {
			c := longChain()
			files := disksOf(c)[name]
			s := newStore(t, much, 1, api.MaxLimit)
			if !full {
				s = newStore(t, much, api.MaxRoom, api.MaxLimit)
			}
			for i := range 6 {
				s.Load([]api.File{c.segment(1, 1, i+1)})
				s.Open()
				s.Close()
			}
			s.Load(files)
			want(t, "P14: "+name, s.Open(), api.OK)
			c.opens = 7
			synced(t, s, "new", "value")
			c.batch(putText("new", "value"))
			next := c.segment(max(written, 41)+1, 7, 7)
			if written > 0 {
				next = c.segment(written+1, 7, 7)
			}
			after := among(files, []api.File{next})
			if written > 0 && !full {
				after = slices.Clone(files)
				i := slices.IndexFunc(after, func(f api.File) bool { return f.Number == written })
				after[i].Bytes += c.records[6]
			}
			wantDisk(t, "P10: behind "+name, s, 7, after)
			reopened(t, s)
			p := stateAt(6)
			p["new"] = "value"
			wantPairs(t, "P14: behind "+name, s, p)
		}
	}
}

// A torn segment that was removed: the one ahead of it is written, or none.
func TestWritingGoesOnBehindATornSegment(t *testing.T) {
	for segment, sizes := range map[int][]int{56: {1, 56, 2, 56}, 57: {1, 103}} {
		s := openStore(t, much, segment, 9)
		synced(t, s, "a", "1")
		s.Close()
		s.Load(append(s.Image(), api.File{Number: 2, Bytes: "S\x00"}))
		want(t, "P14: Open", s.Open(), api.OK)
		wantSizes(t, "P14: removed", s, 1, 56)
		synced(t, s, "b", "2")
		wantSizes(t, "P10: behind a torn segment", s, sizes...)
	}
}

// Segments have numbers up to 9999, whatever the base says.
func TestOpenSegmentsAtTheirBounds(t *testing.T) {
	c := longChain()
	for base, found := range map[int]bool{0: true, 1: true, 9997: true, 9998: true, 9999: false, 10000: false, 10002: false, math.MaxUint32 - 1: false, math.MaxUint32: false} {
		manifest := sheetAt(c, 5, 2, base, 0).manifest()
		files := []api.File{manifest, c.segment(base+1, 6, 6)}
		if found {
			wantOpens(t, fmt.Sprintf("base %d", base), c, 6, files, 6, pairs{strings.Repeat("e", 16): "", "b": "6"}, files)
			continue
		}
		wantTampered(t, fmt.Sprintf("base %d", base), c, 6, files)
		wantOpens(t, fmt.Sprintf("base %d", base), c, 5, files, 5, pairs{}, files[:1])
	}
	manifest := sheetAt(c, 4, 1, 9998, 0).manifest()
	files := []api.File{manifest, c.segment(9999, 5, 5), c.segment(10000, 6, 6)}
	wantTampered(t, "a segment 10000", c, 6, files)
	wantOpens(t, "a file 10000", c, 5, files, 5, pairs{}, files[:2])
}

// A base that no store comes to: the number of a new segment is one more all
// the same.
func TestWritingBehindAGreatBase(t *testing.T) {
	c := longChain()
	for _, base := range []int{9998, 9999, 10000, 10001, math.MaxUint32} {
		s := raised(t, c, 6)
		manifest, snapshot := sheetAt(c, 6, 2, base, 10001).shot(pairText("k", "v"))
		s.Load([]api.File{manifest, snapshot})
		want(t, "P14: Open", s.Open(), api.OK)
		synced(t, s, "a", "1")
		image := s.Image()
		if !slices.ContainsFunc(image, func(f api.File) bool { return f.Number == base+1 && len(f.Bytes) >= 56 }) || s.Count() != 7 {
			t.Errorf("P10: behind the base %d: %s, count %d", base, sizes(image), s.Count())
		}
		wantPairs(t, "P11: Sync", s, pairs{"a": "1", "k": "v"})
	}
}

// A snapshot behind such a base has that base, and what comes behind it ends as
// ever, even where a segment has the number of a snapshot's file.
func TestSnapshotBehindAGreatBase(t *testing.T) {
	c := longChain()
	for _, base := range []int{9998, 9999, 10000, 10001, 10002, math.MaxUint32} {
		s := raised(t, c, 6)
		s.Load([]api.File{sheetAt(c, 6, 2, base, 0).manifest()})
		want(t, "P14: Open", s.Open(), api.OK)
		shot(t, s)
		m := sheet{epoch: 2, opens: 7, count: 6, base: base, file: 10001, root: rootOf(nil), last: c.tag(6)}
		wantDisk(t, fmt.Sprintf("P13: behind the base %d", base), s, 6, []api.File{m.manifest()})
		synced(t, s, "a", "1")
		shot(t, s)
		want(t, "Rotate", s.Rotate(), api.OK)
		wantPairs(t, "P13: Snapshot", s, pairs{"a": "1"})
	}
}

// Each Open counts, however it ends, but for one of an open store.
func TestOpens(t *testing.T) {
	s := newStore(t, much, 100, 9)
	for i := range api.MaxOpens {
		switch i % 3 {
		case 0:
			s.Load([]api.File{{Number: 0, Bytes: "x"}})
			want(t, "P14: Open", s.Open(), api.ErrTampered)
		case 1:
			s.Load([]api.File{{Number: 77, Bytes: "x"}})
			s.Crash(0, 0)
			want(t, "P14: Open", s.Open(), api.ErrCrashed)
		default:
			want(t, "P14: Open", s.Open(), api.OK)
			want(t, "P14: Open of an open store", s.Open(), api.ErrOpen)
			if i < api.MaxOpens-1 {
				want(t, "P9: Close", s.Close(), api.OK)
			}
		}
	}
	c := chain{opens: api.MaxOpens}
	synced(t, s, "a", "1")
	c.batch(putText("a", "1"))
	wantDisk(t, "P10: behind the last of all opens", s, 1, []api.File{c.segment(1, 1, 1)})
	want(t, "P14: open comes first", s.Open(), api.ErrOpen)
	s.Close()
	for range 3 {
		want(t, "P14: an open too many", s.Open(), api.ErrExhausted)
	}
	s.Load(nil)
	want(t, "P14: an open too many, of a bad disk", s.Open(), api.ErrExhausted)
	want(t, "P14: still closed", s.Close(), api.ErrClosed)
}

// The opens are in a record's head: of all that were, not only of those that
// went well.
func TestOpensInTheHead(t *testing.T) {
	s := newStore(t, much, 100, 9)
	want(t, "Open", s.Open(), api.OK)
	s.Close()
	s.Load(strange(0))
	want(t, "Open", s.Open(), api.ErrTampered)
	s.Load(strange(9))
	s.Crash(0, 0)
	want(t, "Open", s.Open(), api.ErrCrashed)
	want(t, "Open", s.Open(), api.OK)
	want(t, "Open", s.Open(), api.ErrOpen)
	c := chain{opens: 4}
	synced(t, s, "a", "1")
	c.batch(putText("a", "1"))
	wantDisk(t, "P10: the fourth open", s, 1, []api.File{c.segment(1, 1, 1)})
}
