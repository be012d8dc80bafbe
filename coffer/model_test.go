package coffer_test

import (
	"fmt"
	"maps"
	"slices"
	"testing"

	"coffer/api"
	"coffer/coffer"
)

// rolls: numbers in an uneven order that hangs on the first state alone.
type rolls struct{ state uint64 }

func (r *rolls) below(n int) int {
	r.state = r.state*6364136223846793005 + 1442695040888963407
	return int(r.state>>33) % n
}

// model: what a store promises to whoever calls it, without a disk.
type model struct {
	t       *testing.T
	s       *coffer.Store
	limit   int
	room    int
	segment int
	open    bool
	acked   pairs // acknowledged
	with    pairs // that with what is pending
	pending int
	size    int // of what is pending, as a record has it
	after   int // steps ahead of the next crash; below 0: none
	count   int
	doubt   pairs // what a crash interrupted; nil: nothing
	opens   int
}

func (m *model) change(r *rolls) {
	key := fmt.Sprint("key", r.below(12))
	value := fmt.Sprintf("%0*d", 1+r.below(20), r.below(1000))
	want := api.OK
	switch {
	case !m.open:
		want = api.ErrClosed
	case m.pending == api.MaxBatch:
		want = api.ErrFull
	}
	if r.below(3) > 0 {
		m.is("Put", m.s.Put(key, value), want)
		if want == api.OK {
			m.with[key] = value
			m.size += 3 + len(key) + len(value)
		}
	} else {
		m.is("Delete", m.s.Delete(key), want)
		if want == api.OK {
			delete(m.with, key)
			m.size += 2 + len(key)
		}
	}
	if want == api.OK {
		m.pending++
	}
}

func (m *model) is(call string, got, want api.Errno) {
	m.t.Helper()
	if got != want {
		m.t.Fatalf("%s: %d, want %d", call, got, want)
	}
}

// syncAnswer tells what Sync must answer, by what is to be seen of the disk.
func (m *model) syncAnswer() api.Errno {
	if !m.open {
		return api.ErrClosed
	}
	if m.pending == 0 {
		return api.OK
	}
	if m.count == m.limit {
		return api.ErrExhausted
	}
	need := 42 + m.size
	image := m.s.Image()
	if len(image) == 0 || len(image[len(image)-1].Bytes) >= m.segment {
		need += 9
	}
	if usedBy(image)+need > m.room {
		return api.ErrNoSpace
	}
	if m.after == 0 || m.after == 1 {
		return api.ErrCrashed
	}
	return api.OK
}

func (m *model) sync() {
	wanted := m.syncAnswer()
	m.is("Sync", m.s.Sync(), wanted)
	switch {
	case wanted == api.OK && m.pending > 0:
		m.count++
		m.after = max(m.after-2, -1)
		m.acked = maps.Clone(m.with)
		m.pending, m.size = 0, 0
	case wanted == api.ErrCrashed:
		m.doubt = maps.Clone(m.with)
		m.closed()
		m.after = -1
	}
}

func (m *model) closed() {
	m.open, m.pending, m.size = false, 0, 0
	m.with = maps.Clone(m.acked)
}

// opened opens. Of a disk that nobody loaded it takes at most what is torn: one
// step.
func (m *model) opened() {
	before := m.s.Image()
	e := m.s.Open()
	torn := !slices.Equal(m.s.Image(), before)
	switch {
	case m.open:
		m.is("Open", e, api.ErrOpen)
		return
	case m.opens == api.MaxOpens:
		m.is("Open", e, api.ErrExhausted)
		return
	}
	m.opens++
	if m.doubt != nil && m.s.Count() == m.count+1 {
		m.count++
		m.acked = m.doubt
	}
	m.doubt = nil
	m.with = maps.Clone(m.acked)
	if e == api.ErrCrashed && m.after == 0 && !torn {
		m.after = -1
		return
	}
	m.is("P17: Open", e, api.OK)
	m.open = true
	if torn && m.after == 0 {
		m.t.Fatalf("P15: Open did a step that the machine had stopped ahead of")
	}
	if torn {
		m.after = max(m.after-1, -1)
	}
}

func (m *model) check() {
	m.t.Helper()
	if m.s.Count() != m.count {
		m.t.Fatalf("P17: the count is %d, want %d", m.s.Count(), m.count)
	}
	if m.open {
		wantPairs(m.t, "P17", m.s, m.with)
	}
	if used(m.s) > m.room {
		m.t.Fatalf("P10: %d bytes on a disk of %d", used(m.s), m.room)
	}
}

// Whatever is called, and whenever the machine stops: Open finds what was
// acknowledged, or that and the whole batch that was interrupted.
func TestWhateverIsCalled(t *testing.T) {
	for seed := range 60 {
		r := &rolls{state: uint64(seed)}
		m := &model{t: t, room: 200 + r.below(6000), segment: 1 + r.below(400), limit: r.below(200), after: -1, acked: pairs{}, with: pairs{}}
		m.s = newStore(t, m.room, m.segment, m.limit)
		nonces := seen{}
		for range 600 {
			switch r.below(12) {
			case 0:
				m.opened()
			case 1:
				if r.below(6) == 0 && m.open {
					m.is("Close", m.s.Close(), api.OK)
					m.closed()
				}
			case 2, 3:
				m.sync()
			case 4:
				if r.below(2) == 0 {
					m.after = r.below(7)
					m.is("Crash", m.s.Crash(m.after, r.below(200)), api.OK)
				}
			default:
				m.change(r)
			}
			m.check()
			nonces.note(t, m.s.Image())
			if t.Failed() {
				t.Fatalf("seed %d", seed)
			}
		}
	}
}
