package coffer_test

import (
	"crypto/aes"
	"crypto/cipher"
	"crypto/hkdf"
	"crypto/hmac"
	"crypto/sha256"
	"encoding/binary"
	"fmt"
	"strings"

	"coffer/api"
)

// The scribe writes disks as the document says, with the library's hashes and
// ciphers: what the store writes and reads is held against it. It may write
// what the store would not, with tags that are right all the same.

func two(n int) string  { return string(binary.BigEndian.AppendUint16(nil, uint16(n))) }
func four(n int) string { return string(binary.BigEndian.AppendUint32(nil, uint32(n))) }

func derived(label string, epoch int, size int) []byte {
	key, err := hkdf.Key(sha256.New, []byte(master), nil, label+string([]byte{byte(epoch)}), size)
	if err != nil {
		panic(err)
	}
	return key
}

func tagged(epoch int, text string) string {
	h := hmac.New(sha256.New, derived("tag", epoch, 32))
	h.Write([]byte(text))
	return string(h.Sum(nil))
}

func encrypted(epoch int, nonce, text string) string {
	block, err := aes.NewCipher(derived("cipher", epoch, 16))
	if err != nil {
		panic(err)
	}
	out := make([]byte, len(text))
	cipher.NewCTR(block, []byte(nonce+strings.Repeat("\x00", 8))).XORKeyStream(out, []byte(text))
	return string(out)
}

// entry: what a record is made of.
type entry struct {
	kind  string
	epoch int
	opens int
	count int
	plain string
	ahead string // the tag of the record ahead of it
}

// record writes a record and tells its tag.
func (e entry) record() (record, tag string) {
	head := e.kind + string([]byte{byte(e.epoch)}) + two(e.opens) + four(e.count) + two(len(e.plain))
	body := encrypted(e.epoch, head[:8], e.plain)
	tag = tagged(e.epoch, e.ahead+head+body)
	return head + body + tag, tag
}

func first(number, count int) string { return "S" + four(number) + four(count) }

func putText(key, value string) string {
	return "P" + string([]byte{byte(len(key)), byte(len(value))}) + key + value
}

func deleteText(key string) string { return "D" + string([]byte{byte(len(key))}) + key }

// pairText is a key and a value as a snapshot has them.
func pairText(key, value string) string { return putText(key, value)[1:] }

var zeros = strings.Repeat("\x00", 32)

// chain: records, each behind the one ahead of it.
type chain struct {
	epoch   int
	opens   int
	records []string
	tags    []string
}

// tag tells the tag of record i, counted from 1; ahead of all it is zeros.
func (c *chain) tag(i int) string {
	if i == 0 {
		return zeros
	}
	return c.tags[i-1]
}

func (c *chain) add(e entry) {
	e.opens, e.count, e.ahead = c.opens, len(c.records)+1, c.tag(len(c.records))
	record, tag := e.record()
	c.records = append(c.records, record)
	c.tags = append(c.tags, tag)
}

// batch adds a record of the kind R.
func (c *chain) batch(changes ...string) {
	c.add(entry{kind: "R", epoch: c.epoch, plain: strings.Join(changes, "")})
}

// rotate adds a record of the kind K.
func (c *chain) rotate() {
	c.epoch++
	c.add(entry{kind: "K", epoch: c.epoch})
}

// segment has the records from one to another, counted from 1.
func (c *chain) segment(number, from, to int) api.File {
	return api.File{Number: number, Bytes: first(number, from) + strings.Join(c.records[from-1:to], "")}
}

// log lays the records from one on into segments behind a base, each of which is
// full at so many bytes.
func (c *chain) log(base, from, full int) []api.File {
	var files []api.File
	for i := from; i <= len(c.records); i++ {
		if n := len(files); n == 0 || len(files[n-1].Bytes) >= full {
			files = append(files, api.File{Number: base + n + 1, Bytes: first(base+n+1, i)})
		}
		files[len(files)-1].Bytes += c.records[i-1]
	}
	return files
}

// sheet: what a manifest is made of.
type sheet struct {
	epoch  int
	opens  int
	count  int
	shots  int
	base   int
	file   int
	length int
	root   string
	last   string
}

func (m sheet) manifest() api.File {
	text := "M" + string([]byte{byte(m.epoch)}) + two(m.opens) + four(m.count) + two(m.shots) +
		four(m.base) + two(m.file) + four(m.length) + m.root + m.last
	return api.File{Number: 0, Bytes: text + tagged(m.epoch, text)}
}

// shot encrypts a snapshot's plain text, fills in its length and its root, and
// tells the manifest and the snapshot's file.
func (m sheet) shot(plain string) (manifest, snapshot api.File) {
	var parts []string
	for i := 0; i*api.PartSize < len(plain); i++ {
		part := plain[i*api.PartSize : min(len(plain), (i+1)*api.PartSize)]
		nonce := "C" + string([]byte{byte(m.epoch)}) + two(m.opens) + two(m.shots) + two(i)
		parts = append(parts, encrypted(m.epoch, nonce, part))
	}
	m.length, m.root = len(plain), rootOf(parts)
	return m.manifest(), api.File{Number: m.file, Bytes: strings.Join(parts, "")}
}

func rootOf(parts []string) string {
	sum := func(text string) string {
		s := sha256.Sum256([]byte(text))
		return string(s[:])
	}
	if len(parts) == 0 {
		return sum("")
	}
	var row []string
	for _, part := range parts {
		row = append(row, sum("\x00"+part))
	}
	for len(row) > 1 {
		var next []string
		for i := 0; i < len(row); i += 2 {
			if i+1 < len(row) {
				next = append(next, sum("\x01"+row[i]+row[i+1]))
			} else {
				next = append(next, row[i])
			}
		}
		row = next
	}
	return row[0]
}

// sizes tells files by their numbers and lengths.
func sizes(files []api.File) string {
	var out strings.Builder
	for _, f := range files {
		fmt.Fprintf(&out, "[%d: %d bytes, %.20x..]", f.Number, len(f.Bytes), f.Bytes)
	}
	return out.String()
}
