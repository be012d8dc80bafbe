package coffer

import (
	"strings"

	"coffer/api"
	"coffer/prim"
)

// The kinds of records.
const (
	kindBatch = "R"
	kindEpoch = "K"
)

// The sizes of a segment's first bytes and of a record's pieces.
const (
	firstSize = 9
	headSize  = 10
	nonceSize = 8
	tagSize   = 32
)

// The sizes of an epoch's keys.
const (
	cipherKeySize = 16
	tagKeySize    = 32
)

// noTag is the tag ahead of all records.
func noTag() string { return strings.Repeat("\x00", tagSize) }

// made tells a text that prim has made. What prim refuses is above a bound that
// nothing the store writes comes near: a stranger wrote it.
func made(text string, e api.Errno) string {
	require(e == api.OK)
	return text
}

// keys: those of an epoch.
type keys struct {
	cipher string
	tag    string
}

func (t trusted) keys(epoch int) keys {
	return keys{
		cipher: made(prim.Derive(t.master, "", "cipher"+u8(epoch), cipherKeySize)),
		tag:    made(prim.Derive(t.master, "", "tag"+u8(epoch), tagKeySize)),
	}
}

// stream encrypts a text, and decrypts it again.
func (k keys) stream(nonce string, text string) string {
	return made(prim.Stream(k.cipher, nonce, text))
}

// mac is the tag of a text.
func (k keys) mac(text string) string {
	return made(prim.Mac(k.tag, text))
}

// sealed is the record that comes next (P10).
func (t trusted) sealed(kind string, epoch int, plain string) string {
	head := kind + u8(epoch) + u16(t.opens) + u32(t.count+1) + u16(len(plain))
	k := t.keys(epoch)
	body := k.stream(head[:nonceSize], plain)
	return head + body + k.mac(t.mark+head+body)
}

// firstBytes are those of a segment whose first record has that count.
func firstBytes(number int, count int) string {
	return "S" + u32(number) + u32(count)
}

// write writes a record (P10). It asks for the room ahead of encrypting, so
// that no nonce serves twice when a write is tried again.
func (s *Store) write(kind string, epoch int, plain string) api.Errno {
	if s.trusted.count == s.limit {
		return api.ErrExhausted
	}
	number, first := s.place()
	if len(first)+headSize+len(plain)+tagSize > s.disk.Free() {
		return api.ErrNoSpace
	}
	record := s.trusted.sealed(kind, epoch, plain)
	s.disk.Append(number, first+record)
	s.disk.Flush(number)
	s.session.last = number
	s.trusted.count++
	s.trusted.mark = record[len(record)-tagSize:]
	return api.OK
}

// place tells the segment that the next record goes to, and the first bytes that
// go ahead of it, if the segment is a new one.
func (s *Store) place() (int, string) {
	n := s.session
	if n.last > n.base && len(s.disk.Bytes(n.last)) < s.segment {
		return n.last, ""
	}
	return n.last + 1, firstBytes(n.last+1, s.trusted.count+1)
}
