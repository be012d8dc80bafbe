package coffer

import (
	"sync"

	"coffer/api"
	"coffer/disk"
)

// look: what looking through the disk has found so far.
type look struct {
	trusted  trusted
	state    state
	epoch    int
	keys     keys // of the epoch
	count    int
	tag      string // of the last record
	ahead    string // the tag of the record ahead of that one
	base     int
	last     int // the last segment; the base, if there is none
	named    int // the file that the manifest names; 0, if there is no manifest
	snapshot int // the snapshot's file; 0, if there is none
	torn     bool
	whole    int // so much of a last segment that is torn is whole records
}

// segment: of the log, as it was read.
type segment struct {
	number int
	bytes  string
}

// open looks the disk through and makes the store ready (P14).
func (s *Store) open() api.Errno {
	l := lookThrough(s.disk, s.trusted)
	s.trusted.count, s.trusted.mark = l.count, l.tag
	l.mend(s.disk)
	s.session = &session{state: l.state, epoch: l.epoch, base: l.base, last: l.last, named: l.named}
	return api.OK
}

// lookThrough gives up if the disk is not what the trusted memory asks for.
func lookThrough(d *disk.Disk, t trusted) look {
	l := look{trusted: t, state: state{}, keys: t.keys(0), tag: noTag()}
	if bytes := d.Bytes(manifestFile); bytes != "" {
		l.begin(t.manifestOf(bytes), d)
	}
	l.last = l.base
	for l.last < topSegment && d.Bytes(l.last+1) != "" {
		l.last++
	}
	l.readLog(d)
	l.requireEnd()
	return l
}

// begin takes over what the manifest and its snapshot tell.
func (l *look) begin(m manifest, d *disk.Disk) {
	l.enter(m.epoch)
	l.state = m.snapshot(d, l.keys)
	l.count, l.tag, l.base, l.named = m.count, m.last, m.base, m.file
	if m.length > 0 {
		l.snapshot = m.file
	}
}

// enter goes on to an epoch.
func (l *look) enter(epoch int) {
	l.epoch, l.keys = epoch, l.trusted.keys(epoch)
}

// readLog checks each segment that a goroutine reads. The channel has room for
// all of them, so that the goroutine ends even if the check gives up; it is
// waited for, so that nobody reads the disk any more when that is changed.
func (l *look) readLog(d *disk.Disk) {
	segments := make(chan segment, l.last-l.base)
	var reader sync.WaitGroup
	defer reader.Wait()
	reader.Add(1)
	go func(from int, to int) {
		defer reader.Done()
		send(segments, d, from, to)
	}(l.base+1, l.last)
	for s := range segments {
		l.checkSegment(s)
	}
}

// send reads the segments of these numbers.
func send(segments chan<- segment, d *disk.Disk, from int, to int) {
	for number := from; number <= to; number++ {
		segments <- segment{number: number, bytes: d.Bytes(number)}
	}
	close(segments)
}

// checkSegment applies the whole records of a segment.
func (l *look) checkSegment(s segment) {
	whole := 0
	if len(s.bytes) >= firstSize {
		c := cutter{rest: s.bytes}
		require(c.take(firstSize) == firstBytes(s.number, l.count+1))
		for hasRecord(c.rest) {
			l.checkRecord(c.record())
			whole = len(s.bytes) - len(c.rest)
		}
	}
	if whole < len(s.bytes) {
		require(s.number == l.last)
		l.torn, l.whole = true, whole
	}
}

// record: one of the log, cut into its pieces.
type record struct {
	kind  string
	epoch int
	count int
	head  string
	body  string
	tag   string
}

// hasRecord tells whether a text begins with a whole record.
func hasRecord(text string) bool {
	return len(text) >= headSize && len(text) >= headSize+bodySize(text)+tagSize
}

// bodySize is what a record's head says of its body.
func bodySize(head string) int {
	c := cutter{rest: head[nonceSize:headSize]}
	return c.number(2)
}

// record cuts off a whole record.
func (c *cutter) record() record {
	var r record
	r.head = c.take(headSize)
	r.body = c.take(bodySize(r.head))
	r.tag = c.take(tagSize)
	h := cutter{rest: r.head}
	r.kind = h.take(1)
	r.epoch = h.number(1)
	h.take(2) // of the opens nothing is asked
	r.count = h.number(4)
	return r
}

// checkRecord applies a record, if it is the one that must come next.
func (l *look) checkRecord(r record) {
	require(r.count == l.count+1)
	switch r.kind {
	case kindBatch:
		require(r.epoch == l.epoch)
	case kindEpoch:
		require(r.epoch == l.epoch+1 && r.epoch <= api.MaxEpoch && r.body == "")
		l.enter(r.epoch)
	default:
		panic(errTampered)
	}
	require(r.tag == l.keys.mac(l.tag+r.head+r.body))
	if r.kind == kindBatch {
		plain := l.keys.stream(r.head[:nonceSize], r.body)
		l.state.apply(changesOf(plain))
	}
	l.count, l.ahead, l.tag = r.count, l.tag, r.tag
}

// requireEnd asks that the log ends where the trusted memory says, or one record
// behind that: a crash came between writing it and counting it.
func (l *look) requireEnd() {
	counted := l.count == l.trusted.count && l.tag == l.trusted.mark
	uncounted := l.count == l.trusted.count+1 && l.ahead == l.trusted.mark
	require(counted || uncounted)
}

// mend takes from the disk what is torn, and what belongs to nobody.
func (l *look) mend(d *disk.Disk) {
	if l.torn && l.whole > 0 {
		d.Cut(l.last, l.whole)
	} else if l.torn {
		d.Remove(l.last)
		l.last--
	}
	for _, number := range d.Numbers() {
		if !l.belongs(number) {
			d.Remove(number)
		}
	}
}

func (l *look) belongs(number int) bool {
	isSegment := number > l.base && number <= l.last
	return number == manifestFile || number == l.snapshot || isSegment
}
