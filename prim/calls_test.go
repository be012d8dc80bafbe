package prim_test

import (
	"fmt"
	"math"
	"slices"
	"strings"
	"sync"
	"testing"

	"coffer/api"
	"coffer/prim"
)

// oddTexts: empty ones, ones at and above every bound, and ones that are no UTF-8.
func oddTexts() []string {
	texts := []string{"", "\x00", "\xff\xfe", "a\x00b", "\u00e9\u2026"}
	for _, n := range []int{7, 8, 9, 15, 16, 17, 63, 64, 65, api.MaxText - 33, api.MaxText - 32, api.MaxText - 1, api.MaxText, api.MaxText + 1, 100000} {
		texts = append(texts, mixed(n, n))
	}
	return texts
}

func oddLists() [][]string {
	lists := [][]string{nil, {}, make([]string, api.MaxParts), make([]string, api.MaxParts+1), oddTexts()}
	for _, x := range oddTexts() {
		lists = append(lists, []string{x}, []string{"a", x}, []string{x, "a", x})
	}
	return lists
}

// checkAnswer: a text has just its size beside OK, and is empty beside an error.
func checkAnswer(t *testing.T, call string, got string, e api.Errno, size int, errors ...api.Errno) {
	t.Helper()
	if e == api.OK {
		if len(got) != size {
			t.Errorf("P1: %s has %d bytes, want %d", call, len(got), size)
		}
		return
	}
	if got != "" {
		t.Errorf("P1: %s answers %x beside the error %d", call, got, e)
	}
	if !slices.Contains(errors, e) {
		t.Errorf("P1: %s answers the error %d, want one of %v", call, e, errors)
	}
}

func TestNoHashPanics(t *testing.T) {
	texts := oddTexts()
	for i, x := range texts {
		got, e := prim.Sum(x)
		checkAnswer(t, "Sum", got, e, 32, api.ErrLong)
		for _, y := range texts {
			got, e := prim.Mac(x, y)
			checkAnswer(t, "Mac", got, e, 32, api.ErrLong)
		}
		y, z := texts[(i+3)%len(texts)], texts[(i+7)%len(texts)]
		for _, n := range []int{math.MinInt, -1, 0, 1, 31, 32, 33, api.MaxDerive, api.MaxDerive + 1, math.MaxInt} {
			for _, c := range [][3]string{{x, "", ""}, {"", x, ""}, {"", "", x}, {x, y, z}} {
				got, e := prim.Derive(c[0], c[1], c[2], n)
				checkAnswer(t, "Derive", got, e, n, api.ErrLong, api.ErrSize)
			}
		}
	}
	for _, parts := range oddLists() {
		got, e := prim.Root(parts)
		checkAnswer(t, "Root", got, e, 32, api.ErrLong)
	}
}

func TestNoCipherPanics(t *testing.T) {
	texts := oddTexts()
	for _, x := range texts {
		for _, y := range texts {
			got, e := prim.Block(x, y)
			checkAnswer(t, "Block", got, e, 16, api.ErrSize)
			for _, z := range texts {
				got, e := prim.Stream(x, y, z)
				checkAnswer(t, "Stream", got, e, len(z), api.ErrSize, api.ErrLong)
			}
		}
	}
}

// allAnswers tells what the calls answer to one choice of arguments.
func allAnswers(i int) string {
	x, y := mixed(50*i, i), mixed(90*i, i+1)
	s, e1 := prim.Sum(x)
	m, e2 := prim.Mac(x, y)
	d, e3 := prim.Derive(x, y, "info", 10*i)
	r, e4 := prim.Root([]string{x, y, x})
	b, e5 := prim.Block(mixed(16, i), mixed(16-i/50, i+1))
	c, e6 := prim.Stream(mixed(16, i), mixed(8, i+1), y)
	return fmt.Sprintf("%x %d %x %d %x %d %x %d %x %d %x %d", s, e1, m, e2, d, e3, r, e4, b, e5, c, e6)
}

// What a call answers does not hang on the calls ahead of it, nor on those
// beside it.
func TestAnswersHangOnArgumentsAlone(t *testing.T) {
	const choices = 60 // the later ones are beyond the bounds
	first := make([]string, choices)
	for i := range choices {
		first[i] = allAnswers(i)
	}
	for i := choices - 1; i >= 0; i-- {
		if again := allAnswers(i); again != first[i] {
			t.Errorf("P2: choice %d: first %s, then %s", i, first[i], again)
		}
	}
	beside := make([]string, choices)
	var all sync.WaitGroup
	for i := range choices {
		all.Go(func() { beside[i] = allAnswers(i) })
	}
	all.Wait()
	if !slices.Equal(first, beside) {
		t.Errorf("P2: calls side by side answer otherwise than one by one")
	}
}

// Neither the list nor what lies behind it in its memory is changed.
func TestRootLeavesItsListAlone(t *testing.T) {
	for n := range api.MaxParts + 2 {
		memory := manyParts(n+20, 5)
		before := slices.Clone(memory)
		prim.Root(memory[:n])
		if !slices.Equal(memory, before) {
			t.Fatalf("P2: Root of %d parts has changed its list's memory", n)
		}
	}
}

// Root does not keep its list: changing that afterwards changes no answer.
func TestRootKeepsNoList(t *testing.T) {
	parts := manyParts(9, 5)
	got, _ := prim.Root(parts)
	kept := strings.Clone(got)
	for i := range parts {
		parts[i] = "other"
	}
	if got != kept {
		t.Errorf("P2: the answer %x has changed to %x", kept, got)
	}
	checkRoot(t, parts)
}
