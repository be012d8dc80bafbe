package coffer

import (
	"strings"

	"coffer/api"
	"coffer/disk"
	"coffer/prim"
)

// The numbers that files are kept for.
const (
	manifestFile = 0
	topSegment   = 9999
	snapshotA    = 10001
	snapshotB    = 10002
)

const (
	rootSize     = 32
	manifestSize = 116
	maxSnapshot  = api.MaxParts * api.PartSize
)

// manifest: what file 0 says (P13).
type manifest struct {
	epoch  int
	opens  int
	count  int
	shots  int
	base   int
	file   int // of the snapshot
	length int // of the snapshot's plain text
	root   string
	last   string // the tag of the last record
}

// manifestOf takes the bytes of file 0 apart and checks all that they tell by
// themselves.
func (t trusted) manifestOf(bytes string) manifest {
	require(len(bytes) == manifestSize)
	c := cutter{rest: bytes}
	require(c.take(1) == "M")
	var m manifest
	m.epoch = c.number(1)
	m.opens = c.number(2)
	m.count = c.number(4)
	m.shots = c.number(2)
	m.base = c.number(4)
	m.file = c.number(2)
	m.length = c.number(4)
	m.root = c.take(rootSize)
	m.last = c.take(tagSize)
	require(m.epoch <= api.MaxEpoch)
	require(c.rest == t.keys(m.epoch).mac(bytes[:manifestSize-tagSize]))
	require(m.count <= t.count)
	return m
}

// sealed is file 0 as the manifest says it. The keys are those of its epoch.
func (m manifest) sealed(k keys) string {
	text := "M" + u8(m.epoch) + u16(m.opens) + u32(m.count) + u16(m.shots) +
		u32(m.base) + u16(m.file) + u32(m.length) + m.root + m.last
	return text + k.mac(text)
}

// snapshot tells the state that the manifest's snapshot has. The keys are those
// of the manifest's epoch.
func (m manifest) snapshot(d *disk.Disk, k keys) state {
	bytes := ""
	if m.length > 0 {
		require(m.length <= maxSnapshot)
		require(m.file == snapshotA || m.file == snapshotB)
		bytes = d.Bytes(m.file)
	}
	require(len(bytes) == m.length)
	parts := cutUp(bytes)
	require(m.root == made(prim.Root(parts)))
	return stateOf(strings.Join(m.stream(parts, k), ""))
}

// stream encrypts the parts of the snapshot, and decrypts them again.
func (m manifest) stream(parts []string, k keys) []string {
	turned := make([]string, 0, len(parts))
	for i, part := range parts {
		turned = append(turned, k.stream(m.nonce(i), part))
	}
	return turned
}

// nonce is that of a part of the snapshot.
func (m manifest) nonce(part int) string {
	return "C" + u8(m.epoch) + u16(m.opens) + u16(m.shots) + u16(part)
}

// cutUp cuts a text into parts.
func cutUp(text string) []string {
	var parts []string
	for text != "" {
		size := min(api.PartSize, len(text))
		parts = append(parts, text[:size])
		text = text[size:]
	}
	return parts
}

// stateOf takes a snapshot's plain text apart.
func stateOf(plain string) state {
	c := cutter{rest: plain}
	s := state{}
	above := "" // no key is empty, so the first one is above this too
	for c.rest != "" {
		p := c.pair()
		require(p.key > above)
		above = p.key
		s[p.key] = entry{value: p.value}
	}
	return s
}
