package coffer

import (
	"strings"

	"coffer/api"
	"coffer/prim"
)

// shoot writes a snapshot (P13). It asks for the room ahead of encrypting, so
// that no nonce serves twice when a snapshot is tried again.
func (s *Store) shoot() api.Errno {
	if e := s.sync(); e != api.OK {
		return e
	}
	n := s.session
	if n.shots == api.MaxShots {
		return api.ErrExhausted
	}
	plain := n.state.plainText()
	if len(plain) > maxSnapshot || s.roomFor(plain) > s.disk.Free() {
		return api.ErrNoSpace
	}
	k := s.trusted.keys(n.epoch)
	m := s.nextManifest(len(plain))
	parts := m.stream(cutUp(plain), k)
	m.root = made(prim.Root(parts))
	n.shots++
	s.layDown(m, strings.Join(parts, ""), m.sealed(k))
	n.base, n.named = m.base, m.file
	return api.OK
}

// roomFor tells how many bytes more a snapshot needs while it is written: a
// manifest that is there gives its own to the next one.
func (s *Store) roomFor(plain string) int {
	if s.disk.Bytes(manifestFile) != "" {
		return len(plain)
	}
	return len(plain) + manifestSize
}

// nextManifest is that of a snapshot of this length, but for its root. The base
// is the last segment, so that none of the log is left.
func (s *Store) nextManifest(length int) manifest {
	n := s.session
	return manifest{
		epoch:  n.epoch,
		opens:  s.trusted.opens,
		count:  s.trusted.count,
		shots:  n.shots,
		base:   n.last,
		file:   otherSnapshot(n.named),
		length: length,
		last:   s.trusted.mark,
	}
}

// otherSnapshot is not the file that the manifest names: until that is replaced,
// a crash must leave the old snapshot whole.
func otherSnapshot(named int) int {
	if named == snapshotA {
		return snapshotB
	}
	return snapshotA
}

// layDown does the steps of a snapshot. From the one that replaces the manifest
// on, all the other files are nobody's.
func (s *Store) layDown(m manifest, parts string, sealed string) {
	if parts != "" {
		s.disk.Append(m.file, parts)
		s.disk.Flush(m.file)
	}
	s.disk.Replace(manifestFile, sealed)
	for _, number := range s.disk.Numbers() {
		if number != manifestFile && number != m.file {
			s.disk.Remove(number)
		}
	}
}
