package coffer_test

import (
	"fmt"
	"math"
	"runtime"
	"slices"
	"strings"
	"sync"
	"testing"
	"time"

	"coffer/api"
	"coffer/coffer"
)

func oddNumbers() []int {
	return []int{math.MinInt, -1, 0, 1, 2, 9, 55, 56, 999, 1000, api.MaxRoom, api.MaxRoom + 1, math.MaxInt}
}

func oddTexts() []string {
	texts := []string{"", "\x00", "\xff", "\u00e9\u2026"}
	for _, n := range []int{15, 16, 17, 31, 32, 33, 255, 256, 65536} {
		texts = append(texts, strings.Repeat("x", n))
	}
	return texts
}

func oddLists() [][]api.File {
	lists := [][]api.File{nil, {}, manyFiles(api.MaxFiles), manyFiles(api.MaxFiles + 1), make([]api.File, 5)}
	for _, number := range oddNumbers() {
		for _, text := range append(oddTexts(), "M", "S", first(1, 1), first(number, 1), strings.Repeat("M", 116), first(1, 1)+strings.Repeat("R", 999)) {
			lists = append(lists, []api.File{{Number: number, Bytes: text}}, []api.File{{Number: 0, Bytes: text}, {Number: number, Bytes: text}})
		}
	}
	return lists
}

// No call panics and each ends, at all numbers, texts and lists; and beside an
// error there is nothing.
func TestNoCallPanics(t *testing.T) {
	for _, room := range oddNumbers() {
		for _, segment := range oddNumbers() {
			for _, text := range append(oddTexts(), master) {
				s, e := coffer.New(room, segment, 9, text)
				if (s == nil) != (e != api.OK) {
					t.Errorf("P1: New: %v, %d", s, e)
				}
				if s, e := coffer.New(9, 9, room, text); (s == nil) != (e != api.OK) {
					t.Errorf("P1: New: %v, %d", s, e)
				}
				if s != nil {
					oddCalls(t, s)
				}
			}
		}
	}
}

func oddCalls(t *testing.T, s *coffer.Store) {
	for _, n := range oddNumbers() {
		s.Crash(n, 3)
		s.Crash(3, n)
	}
	for _, files := range oddLists() {
		s.Load(files)
		s.Open()
		for _, text := range []string{"", "k", strings.Repeat("k", 17)} {
			s.Put(text, text)
			s.Delete(text)
			if value, e := s.Get(text); e != api.OK && value != "" {
				t.Errorf("P1: Get: %q, %d", value, e)
			}
		}
		if keys, e := s.Keys(); e != api.OK && len(keys) != 0 {
			t.Errorf("P1: Keys: %q, %d", keys, e)
		}
		s.Sync()
		s.Rotate()
		s.Put("r", "")
		s.Snapshot()
		s.Image()
		s.Count()
		s.Close()
	}
}

// parsedChanges tells, in the test's own way, whether a plain text is changes.
func parsedChanges(plain string) bool {
	n := 0
	for plain != "" {
		n++
		head := map[byte]int{'P': 3, 'D': 2}[plain[0]]
		if head == 0 || len(plain) < head {
			return false
		}
		key, value := int(plain[1]), 0
		if head == 3 {
			value = int(plain[2])
		}
		if key < 1 || key > 16 || value > 32 || len(plain) < head+key+value {
			return false
		}
		plain = plain[head+key+value:]
	}
	return n >= 1 && n <= 20
}

// Plain texts by chance, most of them near what Sync writes, in records with
// right tags.
func TestOpenOfBodiesByChance(t *testing.T) {
	r := &rolls{state: 3}
	good, bad := 0, 0
	for range 4000 {
		plain := ""
		for range 1 + r.below(22) {
			key, value := strings.Repeat("k", r.below(18)), strings.Repeat("v", r.below(34))
			if r.below(4) > 0 {
				key, value = "k", "v"
			}
			plain += []string{putText(key, value), deleteText(key)}[r.below(2)]
		}
		if r.below(3) == 0 {
			plain = plain[:r.below(len(plain)+1)]
		}
		if r.below(3) == 0 && plain != "" {
			b := []byte(plain)
			b[r.below(len(b))] = byte(r.below(40))
			plain = string(b)
		}
		record, _ := entry{kind: "R", count: 1, plain: plain, ahead: zeros}.record()
		s := newStore(t, much, 100, 9)
		s.Load([]api.File{{Number: 1, Bytes: first(1, 1) + record}})
		if parsedChanges(plain) {
			good++
			want(t, fmt.Sprintf("P14: %q", plain), s.Open(), api.OK)
		} else {
			bad++
			want(t, fmt.Sprintf("P14: %q", plain), s.Open(), api.ErrTampered)
		}
	}
	if good < 500 || bad < 500 {
		t.Errorf("%d good ones, %d bad ones", good, bad)
	}
}

// Disks that are changed by chance: Open ends, and never with a panic.
func TestOpenOfDisksByChance(t *testing.T) {
	c := longChain()
	r := &rolls{state: 9}
	for name, files := range disksOf(c) {
		s := raised(t, c, 6)
		for range 900 {
			changed := slices.Clone(files)
			for range 1 + r.below(3) {
				i := r.below(len(changed))
				b := []byte(changed[i].Bytes)
				at := r.below(len(b))
				switch r.below(4) {
				case 0:
					b[at] = byte(r.below(256))
				case 1:
					b = slices.Delete(b, at, len(b))
				case 2:
					b = slices.Insert(b, at, byte(r.below(256)))
				default:
					b = append(b, b[at:]...)
				}
				changed[i].Bytes = string(b) + "x"[:r.below(2)]
				if changed[i].Bytes == "" {
					changed[i].Bytes = "x"
				}
			}
			want(t, "P16: Load", s.Load(changed), api.OK)
			if e := s.Open(); e == api.OK {
				wantPairs(t, "P14: "+name, s, stateAt(6))
				s.Close()
			} else {
				want(t, "P14: "+name, e, api.ErrTampered)
			}
		}
	}
}

// history does what hangs on the seed with a store of its own, and tells all
// that it answered.
func history(seed int) string {
	r := &rolls{state: uint64(seed)}
	s, e := coffer.New(3000, 120, 30, master)
	var out strings.Builder
	tell := func(answers ...any) { fmt.Fprintf(&out, "%q\n", fmt.Sprint(answers...)) }
	tell(e, s.Open())
	var kept []api.File
	for range 160 {
		key, value := fmt.Sprint("k", r.below(9)), fmt.Sprint("v", r.below(99))
		switch r.below(18) {
		case 0:
			tell(s.Close())
		case 1, 2:
			tell(s.Open())
		case 3:
			tell(s.Crash(r.below(5), r.below(99)))
		case 4:
			kept = s.Image()
			tell(kept)
		case 5:
			if r.below(4) == 0 {
				tell(s.Load(kept))
			}
		case 6, 7:
			tell(s.Sync(), s.Count())
		case 8:
			tell(s.Delete(key))
		case 9:
			tell(s.Get(key))
		case 10:
			tell(s.Keys())
		case 11:
			tell(s.Rotate(), s.Count())
		case 12, 13:
			tell(s.Snapshot(), s.Image())
		default:
			tell(s.Put(key, value))
		}
	}
	tell(s.Image(), s.Count())
	return out.String()
}

// What a store answers hangs on its own calls alone: not on those of other
// stores, ahead or beside.
func TestAnswersHangOnTheStoreAlone(t *testing.T) {
	const seeds = 40
	first := make([]string, seeds)
	for i := range seeds {
		first[i] = history(i)
	}
	beside := make([]string, seeds)
	var all sync.WaitGroup
	for i := range seeds {
		all.Go(func() { beside[i] = history(i) })
	}
	all.Wait()
	if !slices.Equal(first, beside) {
		t.Errorf("P2: the same calls answer otherwise")
	}
}

// Answers are new memory, with the room behind them.
func TestAnswersShareNoMemory(t *testing.T) {
	s := openStore(t, much, 56, 9)
	synced(t, s, "a", "1")
	synced(t, s, "b", "2")
	s.Put("c", "3")
	image, keys := s.Image(), func() []string { keys, _ := s.Keys(); return keys }
	before, list := slices.Clone(image), keys()
	again, other := s.Image(), keys()
	clear(image[:cap(image)])
	clear(list[:cap(list)])
	if !slices.Equal(again, before) || !slices.Equal(other, []string{"a", "b", "c"}) {
		t.Errorf("P2: two answers share memory: %s, %q", sizes(again), other)
	}
	wantDisk(t, "P2: an answer was changed", s, 2, before)
	wantPairs(t, "P2: an answer was changed", s, pairs{"a": "1", "b": "2", "c": "3"})
	loaded := s.Image()
	s.Close()
	s.Load(loaded)
	clear(loaded)
	wantDisk(t, "P2: a list that was handed in was changed", s, 2, before)
	want(t, "P14: Open", s.Open(), api.OK)
}

// The goroutine that reads the log has ended when Open answers, even if the
// check gave up at the first of many segments.
func TestNoGoroutineIsLeft(t *testing.T) {
	s := openStore(t, much, 1, 99)
	for range 30 {
		synced(t, s, "a", "1")
	}
	s.Close()
	files := s.Image()
	files[0].Bytes = "s" + files[0].Bytes[1:]
	before := runtime.NumGoroutine()
	for range 200 {
		s.Load(files)
		want(t, "P14: Open", s.Open(), api.ErrTampered)
	}
	for tries := 0; runtime.NumGoroutine() > before; tries++ {
		if tries > 100 {
			t.Fatalf("%d goroutines are left of %d", runtime.NumGoroutine(), before)
		}
		time.Sleep(10 * time.Millisecond)
	}
}
