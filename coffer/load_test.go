package coffer_test

import (
	"math"
	"slices"
	"strings"
	"testing"

	"coffer/api"
)

func manyFiles(n int) []api.File {
	var files []api.File
	for i := range n {
		files = append(files, api.File{Number: 5 * i, Bytes: "x"})
	}
	return files
}

// Open comes ahead of all that is wrong with the list.
func TestLoadOfAnOpenStore(t *testing.T) {
	s := openStore(t, 100, 100, 9)
	for _, files := range [][]api.File{nil, manyFiles(1), manyFiles(api.MaxFiles + 1), {{Number: -1, Bytes: ""}}} {
		want(t, "P16: Load", s.Load(files), api.ErrOpen)
	}
	wantDisk(t, "P16: Load", s, 0, nil)
}

func TestLoadRefuses(t *testing.T) {
	s := newStore(t, 1000, 100, 9)
	before := []api.File{{Number: 3, Bytes: "before"}}
	want(t, "P16: Load", s.Load(before), api.OK)
	for what, files := range map[string][]api.File{
		"too many files":             manyFiles(api.MaxFiles + 1),
		"far too many files":         make([]api.File, 9999),
		"a number below 0":           {{Number: -1, Bytes: "x"}},
		"a number far below 0":       {{Number: math.MinInt, Bytes: "x"}},
		"a number below 0 behind":    {{Number: 0, Bytes: "x"}, {Number: -1, Bytes: "x"}},
		"a number twice":             {{Number: 4, Bytes: "x"}, {Number: 4, Bytes: "x"}},
		"the number 0 twice":         {{Number: 0, Bytes: "x"}, {Number: 0, Bytes: "x"}},
		"numbers in another order":   {{Number: 4, Bytes: "x"}, {Number: 6, Bytes: "x"}, {Number: 5, Bytes: "x"}},
		"a file without bytes":       {{Number: 4, Bytes: ""}},
		"a last file without bytes":  {{Number: 4, Bytes: "x"}, {Number: 5, Bytes: ""}},
		"one byte more than room":    {{Number: 4, Bytes: strings.Repeat("x", 1001)}},
		"one byte more, of two":      {{Number: 4, Bytes: strings.Repeat("x", 500)}, {Number: 5, Bytes: strings.Repeat("x", 501)}},
		"far more than there's room": {{Number: 4, Bytes: strings.Repeat("x", 1<<20)}, {Number: 5, Bytes: "x"}},
	} {
		want(t, "P16: Load of "+what, s.Load(files), api.ErrArg)
		wantDisk(t, "P16: Load of "+what, s, 0, before)
	}
}

func TestLoadTakesItsBounds(t *testing.T) {
	s := newStore(t, 1000, 100, 9)
	for _, files := range [][]api.File{
		nil, {}, manyFiles(1), manyFiles(api.MaxFiles),
		{{Number: 0, Bytes: "\x00"}, {Number: 1, Bytes: "\xff\xfe"}, {Number: math.MaxInt, Bytes: "x"}},
		{{Number: 4, Bytes: strings.Repeat("x", 1000)}},
		{{Number: 4, Bytes: strings.Repeat("x", 500)}, {Number: 5, Bytes: strings.Repeat("x", 500)}},
		nil,
	} {
		want(t, "P16: Load", s.Load(files), api.OK)
		wantDisk(t, "P16: Load", s, 0, files)
	}
	s = newStore(t, 0, 1, 0)
	want(t, "P16: Load of nothing", s.Load(nil), api.OK)
	want(t, "P16: Load without room", s.Load(manyFiles(1)), api.ErrArg)
}

// What was loaded takes room.
func TestLoadedFilesTakeRoom(t *testing.T) {
	s := openStore(t, 103, 100, 9)
	synced(t, s, "a", "1")
	s.Close()
	want(t, "P16: Load", s.Load(s.Image()), api.OK)
	want(t, "P14: Open", s.Open(), api.OK)
	s.Put("b", "23")
	want(t, "P10: one byte short", s.Sync(), api.ErrNoSpace)
	reopened(t, s)
	synced(t, s, "b", "2")
}

// What was loaded is flushed: a crash takes nothing of it.
func TestLoadedFilesOutlastACrash(t *testing.T) {
	c := longChain()
	s := raised(t, c, 6)
	files := disksOf(c)["three segments"]
	s.Load(files)
	want(t, "P14: Open", s.Open(), api.OK)
	s.Crash(0, 0)
	s.Put("a", "1")
	want(t, "P15: Sync", s.Sync(), api.ErrCrashed)
	wantDisk(t, "P16: Load", s, 6, files)
}

// The trusted memory is none of Load's.
func TestLoadLeavesTheCount(t *testing.T) {
	s := openStore(t, much, 100, 9)
	synced(t, s, "a", "1")
	s.Close()
	image := s.Image()
	s.Load(nil)
	wantDisk(t, "P16: Load", s, 1, nil)
	want(t, "P14: Open", s.Open(), api.ErrTampered)
	s.Load(image)
	want(t, "P14: Open", s.Open(), api.OK)
}

func TestLoadKeepsNoList(t *testing.T) {
	s := newStore(t, 1000, 100, 9)
	memory := manyFiles(9)
	before := slices.Clone(memory)
	want(t, "P16: Load", s.Load(memory[:5]), api.OK)
	want(t, "P14: Open", s.Open(), api.ErrTampered)
	if !slices.Equal(memory, before) {
		t.Errorf("P2: Load has changed its list or what lies behind it")
	}
	clear(memory)
	wantDisk(t, "P2: the list was changed behind Load", s, 0, before[:5])
}
