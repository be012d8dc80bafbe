package coffer_test

import (
	"fmt"
	"math"
	"slices"
	"strings"
	"testing"

	"coffer/api"
	"coffer/coffer"
)

// longChain has six records, two of them of the kind K.
func longChain() *chain {
	c := &chain{opens: 7}
	c.batch(putText("a", "1"), putText("b", "2"))
	c.rotate()
	c.batch(putText("c", "3"), deleteText("a"))
	c.batch(putText("d", strings.Repeat("4", api.MaxValue)), deleteText("none"))
	c.rotate()
	c.batch(putText(strings.Repeat("e", api.MaxKey), ""), putText("b", "6"))
	return c
}

// stateAt is the state of longChain behind so many records.
func stateAt(count int) pairs {
	p := pairs{}
	if count >= 1 {
		p["a"], p["b"] = "1", "2"
	}
	if count >= 3 {
		p["c"] = "3"
		delete(p, "a")
	}
	if count >= 4 {
		p["d"] = strings.Repeat("4", api.MaxValue)
	}
	if count >= 6 {
		p[strings.Repeat("e", api.MaxKey)], p["b"] = "", "6"
	}
	return p
}

// snapshotText is the plain text of a snapshot of a state.
func snapshotText(p pairs) string {
	var keys []string
	for key := range p {
		keys = append(keys, key)
	}
	slices.Sort(keys)
	text := ""
	for _, key := range keys {
		text += pairText(key, p[key])
	}
	return text
}

// raised is a closed store of which the trusted memory says that the first n
// records of the chain are acknowledged.
func raised(t *testing.T, c *chain, n int) *coffer.Store {
	t.Helper()
	s := newStore(t, much, 1, api.MaxLimit)
	for i := range n {
		want(t, "P16: Load", s.Load([]api.File{c.segment(1, 1, i+1)}), api.OK)
		want(t, "P14: Open of one record more", s.Open(), api.OK)
		want(t, "Close", s.Close(), api.OK)
	}
	if s.Count() != n {
		t.Fatalf("P14: the count is %d, want %d", s.Count(), n)
	}
	return s
}

// wantTampered fails the test if a raised store opens this disk, or changes
// anything.
func wantTampered(t *testing.T, what string, c *chain, n int, files []api.File) {
	t.Helper()
	s := raised(t, c, n)
	if e := s.Load(files); e != api.OK {
		t.Fatalf("%s: P16: Load: %d", what, e)
	}
	want(t, "P14: "+what, s.Open(), api.ErrTampered)
	wantDisk(t, "P14: "+what, s, n, files)
}

// wantOpens fails the test if a raised store does not open this disk, or finds
// something else on it, or leaves other files on it.
func wantOpens(t *testing.T, what string, c *chain, n int, files []api.File, count int, p pairs, left []api.File) *coffer.Store {
	t.Helper()
	s := raised(t, c, n)
	if e := s.Load(files); e != api.OK {
		t.Fatalf("%s: P16: Load: %d", what, e)
	}
	want(t, "P14: "+what, s.Open(), api.OK)
	wantPairs(t, "P14: "+what, s, p)
	wantDisk(t, "P14: "+what, s, count, left)
	return s
}

// sheetAt is what a manifest says of a chain behind so many records.
func sheetAt(c *chain, count, epoch, base, file int) sheet {
	return sheet{epoch: epoch, opens: 5, count: count, shots: 3, base: base, file: file, root: rootOf(nil), last: c.tag(count)}
}

// disksOf: all shapes of a disk that has the records of longChain.
func disksOf(c *chain) map[string][]api.File {
	half, halfShot := sheetAt(c, 3, 1, 7, 10002).shot(snapshotText(stateAt(3)))
	whole, wholeShot := sheetAt(c, 6, 2, 41, 10001).shot(snapshotText(stateAt(6)))
	return map[string][]api.File{
		"one segment":             {c.segment(1, 1, 6)},
		"three segments":          {c.segment(1, 1, 1), c.segment(2, 2, 4), c.segment(3, 5, 6)},
		"six segments":            {c.segment(1, 1, 1), c.segment(2, 2, 2), c.segment(3, 3, 3), c.segment(4, 4, 4), c.segment(5, 5, 5), c.segment(6, 6, 6)},
		"an empty manifest":       {sheetAt(c, 0, 0, 4, 10001).manifest(), c.segment(5, 1, 6)},
		"a manifest and segments": {half, c.segment(8, 4, 5), c.segment(9, 6, 6), halfShot},
		"a manifest alone":        {whole, wholeShot},
	}
}

func TestOpenFindsAllShapes(t *testing.T) {
	c := longChain()
	for name, files := range disksOf(c) {
		wantOpens(t, name, c, 6, files, 6, stateAt(6), files)
	}
	files := []api.File{sheetAt(c, 0, 0, 0, 10001).manifest(), c.segment(1, 1, 6)}
	wantOpens(t, "a manifest that says what none would", c, 6, files, 6, stateAt(6), files)
	wantOpens(t, "without that manifest", c, 6, files[1:], 6, stateAt(6), files[1:])
}

// A record more than was counted is taken over, and counted; two are not.
func TestOpenOneMore(t *testing.T) {
	c := longChain()
	for name, files := range disksOf(c) {
		if name == "a manifest alone" {
			wantTampered(t, name+" of a count above the trusted one", c, 5, files)
			continue
		}
		s := wantOpens(t, name+", one more", c, 5, files, 6, stateAt(6), files)
		reopened(t, s)
		wantPairs(t, "P14: "+name+", counted", s, stateAt(6))
		wantTampered(t, name+", two more", c, 4, files)
	}
	for n := range 6 {
		segments := []api.File{c.segment(1, 1, n+1)}
		wantOpens(t, "one more", c, n, segments, n+1, stateAt(n+1), segments)
	}
}

// Without the end of what was acknowledged, to whichever length the disk is cut.
func TestOpenWithoutTheEnd(t *testing.T) {
	c := longChain()
	for name, files := range disksOf(c) {
		for i, f := range files {
			s := raised(t, c, 6)
			for length := range len(f.Bytes) {
				cut := slices.Clone(files)
				cut[i].Bytes = f.Bytes[:length]
				if length == 0 {
					cut = slices.Delete(cut, i, i+1)
				}
				want(t, "P16: Load", s.Load(cut), api.OK)
				if e := s.Open(); e != api.ErrTampered {
					t.Errorf("P14, P18: %s, file %d cut to %d bytes: %d", name, f.Number, length, e)
				}
			}
			wantDisk(t, name, s, 6, s.Image())
		}
	}
}

// Any one bit of a disk.
func TestOpenWithAnotherBit(t *testing.T) {
	c := longChain()
	for name, files := range disksOf(c) {
		for i, f := range files {
			for bit := range 8 {
				s := raised(t, c, 6)
				for at := range len(f.Bytes) {
					changed := slices.Clone(files)
					b := []byte(f.Bytes)
					b[at] ^= 1 << bit
					changed[i].Bytes = string(b)
					want(t, "P16: Load", s.Load(changed), api.OK)
					if e := s.Open(); e != api.ErrTampered {
						t.Errorf("P14: %s, file %d, byte %d, bit %d: %d", name, f.Number, at, bit, e)
					}
				}
			}
		}
	}
}

// Torn ends of every length, of the last segment and of a new one; if all of it
// is there, it is taken over.
func TestOpenTornEnds(t *testing.T) {
	c := longChain()
	c.batch(putText("f", "7"), deleteText("b"))
	after := stateAt(6)
	after["f"] = "7"
	delete(after, "b")
	for name, files := range disksOf(c) {
		last := slices.IndexFunc(files, func(f api.File) bool { return f.Number > 9999 }) - 1
		if last < 0 { // no snapshot, so the last file is the last segment
			last = len(files) - 1
		}
		next := c.segment(files[last].Number+1, 7, 7)
		if files[last].Number == 0 {
			next = c.segment(42, 7, 7) // behind the manifest's base
		}
		for torn := 1; torn <= len(next.Bytes); torn++ {
			what := fmt.Sprintf("%s, %d bytes of a new segment", name, torn)
			more := slices.Insert(slices.Clone(files), last+1, api.File{Number: next.Number, Bytes: next.Bytes[:torn]})
			if torn == len(next.Bytes) {
				wantOpens(t, what, c, 6, more, 7, after, more)
			} else {
				wantOpens(t, what, c, 6, more, 6, stateAt(6), files)
			}
		}
		if files[last].Number == 0 {
			continue
		}
		for torn := 1; torn <= len(c.records[6]); torn++ {
			what := fmt.Sprintf("%s, %d bytes of a record", name, torn)
			more := slices.Clone(files)
			more[last].Bytes += c.records[6][:torn]
			if torn == len(c.records[6]) {
				wantOpens(t, what, c, 6, more, 7, after, more)
			} else {
				wantOpens(t, what, c, 6, more, 6, stateAt(6), files)
			}
		}
	}
}

// Of what is torn nothing is asked: not of the bytes of a record that is not
// whole, nor of first bytes that are fewer than nine.
func TestOpenAsksNothingOfWhatIsTorn(t *testing.T) {
	c := longChain()
	good := []api.File{c.segment(1, 1, 6)}
	for _, torn := range []string{"x", "RRRRRRRRR", "\xff\xff\xff\xff\xff\xff\xff\xff\x00\x01" + strings.Repeat("x", 32), strings.Repeat("\xff", 65535)} {
		files := []api.File{{Number: 1, Bytes: good[0].Bytes + torn}}
		wantOpens(t, "a torn record", c, 6, files, 6, stateAt(6), good)
		wantTampered(t, "a torn record in a segment that is not the last", c, 6, []api.File{files[0], c.segment(2, 7, 6)})
	}
	for _, torn := range []string{"x", "S", "SSSSSSSS"} {
		files := []api.File{good[0], {Number: 2, Bytes: torn}}
		wantOpens(t, "torn first bytes", c, 6, files, 6, stateAt(6), good)
		more := append(files, api.File{Number: 3, Bytes: "S"})
		wantTampered(t, "torn first bytes in a segment that is not the last", c, 6, more)
	}
	wantOpens(t, "nothing but first bytes", c, 6, []api.File{good[0], c.segment(2, 7, 6)}, 6, stateAt(6), good)
	bad := []api.File{good[0], {Number: 2, Bytes: first(3, 7)}}
	wantTampered(t, "nothing but first bytes, and these wrong", c, 6, bad)
	bad[1].Bytes = first(2, 7) + "x"
	wantOpens(t, "first bytes and a torn record", c, 6, bad, 6, stateAt(6), good)
	bad[1].Bytes = first(2, 8) + "x"
	wantTampered(t, "first bytes that are wrong, and a torn record", c, 6, bad)
}

// A new store, whose disk has nothing but torn first bytes.
func TestOpenNothingButATornSegment(t *testing.T) {
	var none chain
	for n := 1; n <= 9; n++ {
		files := []api.File{{Number: 1, Bytes: first(1, 1)[:n]}}
		s := wantOpens(t, "a torn first segment", &none, 0, files, 0, pairs{}, nil)
		synced(t, s, "a", "1")
		wantSizes(t, "P14: then no segment is written", s, 1, 56)
	}
}

func TestOpenRefusesSegments(t *testing.T) {
	c := longChain()
	withFirst := func(f api.File, bytes string) api.File {
		return api.File{Number: f.Number, Bytes: bytes + f.Bytes[9:]}
	}
	one, two, three := c.segment(1, 1, 2), c.segment(2, 3, 4), c.segment(3, 5, 6)
	for what, files := range map[string][]api.File{
		"no file":                             nil,
		"first bytes with another letter":     {one, withFirst(two, "s"+first(2, 3)[1:]), three},
		"first bytes with a number above":     {one, withFirst(two, first(3, 3)), three},
		"first bytes with a number below":     {one, withFirst(two, first(1, 3)), three},
		"first bytes with a count above":      {one, withFirst(two, first(2, 4)), three},
		"first bytes with a count below":      {one, withFirst(two, first(2, 2)), three},
		"the last one's first bytes wrong":    {one, two, withFirst(three, first(3, 6))},
		"a segment that is not there":         {one, three},
		"the first segment not there":         {two, three},
		"segments in another order":           {one, {Number: 2, Bytes: three.Bytes}, {Number: 3, Bytes: two.Bytes}},
		"a segment without records":           {one, {Number: 2, Bytes: first(2, 3)}, c.segment(3, 3, 6)},
		"a torn record in the midst":          {one, {Number: 2, Bytes: two.Bytes + "x"}, three},
		"a segment that ends with half":       {one, {Number: 2, Bytes: two.Bytes[:len(two.Bytes)-1]}, three},
		"torn first bytes in the midst":       {one, two, {Number: 3, Bytes: "S"}, c.segment(4, 5, 6)},
		"a record twice":                      {one, {Number: 2, Bytes: two.Bytes + c.records[3]}, three},
		"a record left out":                   {one, {Number: 2, Bytes: first(2, 3) + c.records[3]}, three},
		"two records in each other's place":   {one, {Number: 2, Bytes: first(2, 3) + c.records[3] + c.records[2]}, three},
		"the last record left out":            {one, two, c.segment(3, 5, 5)},
		"the log from a later place on":       {c.segment(1, 3, 6)},
		"segments from 0 on":                  {c.segment(0, 1, 3), c.segment(1, 4, 6)},
		"a segment of two that are beside it": {{Number: 1, Bytes: one.Bytes + two.Bytes}, three},
	} {
		wantTampered(t, what, c, 6, files)
	}
}

// recordBehind is a disk of longChain with a record behind it, of which the tag
// is right.
func recordBehind(c *chain, e entry) []api.File {
	record, _ := e.record()
	segment := c.segment(1, 1, 6)
	segment.Bytes += record
	return []api.File{segment}
}

// nextEntry is the record that may come behind longChain.
func nextEntry(c *chain, kind string, epoch int, plain string) entry {
	return entry{kind: kind, epoch: epoch, opens: 9, count: 7, plain: plain, ahead: c.tag(6)}
}

func TestOpenTakesRecords(t *testing.T) {
	c := longChain()
	base := stateAt(6)
	with := func(key, value string) pairs {
		p := stateAt(6)
		p[key] = value
		return p
	}
	long, wide := strings.Repeat("k", api.MaxKey), strings.Repeat("v", api.MaxValue)
	for _, r := range []struct {
		kind  string
		epoch int
		plain string
		p     pairs
	}{
		{"R", 2, putText("k", "v"), with("k", "v")},
		{"R", 2, putText("k", ""), with("k", "")},
		{"R", 2, putText(long, wide), with(long, wide)},
		{"R", 2, strings.Repeat(putText(long, wide), api.MaxBatch), with(long, wide)},
		{"R", 2, strings.Repeat(deleteText("x"), api.MaxBatch), base},
		{"R", 2, deleteText("k"), base},
		{"R", 2, deleteText(long), base},
		{"R", 2, putText("k", "1") + deleteText("k") + putText("k", "2"), with("k", "2")},
		{"R", 2, putText("k", "1") + deleteText("k"), base},
		{"R", 2, putText("\x00", "\xff"), with("\x00", "\xff")},
		{"K", 3, "", base},
	} {
		for _, opens := range []int{0, 1, 999, 65535} {
			e := nextEntry(c, r.kind, r.epoch, r.plain)
			e.opens = opens
			files := recordBehind(c, e)
			wantOpens(t, fmt.Sprintf("the record %s %q", r.kind, r.plain), c, 6, files, 7, r.p, files)
		}
	}
}

func TestOpenRefusesRecords(t *testing.T) {
	c := longChain()
	good := putText("k", "v")
	long, wide := strings.Repeat("k", api.MaxKey), strings.Repeat("v", api.MaxValue)
	bad := map[string]entry{
		"another kind":           nextEntry(c, "X", 2, good),
		"a small letter":         nextEntry(c, "r", 2, good),
		"a small letter for K":   nextEntry(c, "k", 3, ""),
		"an R of an older epoch": nextEntry(c, "R", 1, good),
		"an R of the next epoch": nextEntry(c, "R", 3, good),
		"a K of the epoch":       nextEntry(c, "K", 2, ""),
		"a K of an older epoch":  nextEntry(c, "K", 1, ""),
		"a K of the epoch after": nextEntry(c, "K", 4, ""),
		"a K with a body":        nextEntry(c, "K", 3, "x"),
		"a K with a put":         nextEntry(c, "K", 3, good),
	}
	for what, plain := range map[string]string{
		"no change":                     "",
		"more changes than a batch has": strings.Repeat(deleteText("x"), api.MaxBatch+1),
		"another change":                "X\x01k",
		"a small letter":                "p\x01\x01kv",
		"a put of no key":               putText("", "v"),
		"a put of a key too long":       putText(long+"k", "v"),
		"a put of a value too long":     putText("k", wide+"v"),
		"a delete of no key":            deleteText(""),
		"a delete of a key too long":    deleteText(long + "k"),
		"a put of a key of 255":         putText(strings.Repeat("k", 255), strings.Repeat("v", 255)),
		"a byte behind":                 good + "P",
		"a 0 behind":                    good + "\x00",
		"a put that ends in its head":   "P\x01",
		"a put that ends in its key":    "P\x03\x00kk",
		"a put that ends in its value":  "P\x01\x03kvv",
		"a delete that ends":            "D\x02k",
		"a delete without a length":     "D",
		"as much as may be tagged":      strings.Repeat("D\x01k", 1351) + "D",
		"a body too long to be tagged":  strings.Repeat("D\x01k", 1351) + "DD",
		"a body of the greatest length": strings.Repeat("D\x01k", 21845),
	} {
		bad["an R with "+what] = nextEntry(c, "R", 2, plain)
	}
	for _, count := range []int{0, 5, 6, 8, 7 + 1<<8, 7 + 1<<24} {
		e := nextEntry(c, "R", 2, good)
		e.count = count
		bad[fmt.Sprintf("an R with the count %d", count)] = e
	}
	for i := range 6 {
		e := nextEntry(c, "R", 2, good)
		e.ahead = c.tag(i)
		bad[fmt.Sprintf("an R behind record %d", i)] = e
	}
	for what, e := range bad {
		wantTampered(t, what, c, 6, recordBehind(c, e))
	}
}

// The epoch that a head tells, the cipher key and the tag key go together.
func TestOpenRefusesKeysOfOtherEpochs(t *testing.T) {
	c := longChain()
	after := stateAt(6)
	after["k"] = "v"
	for told := range 7 {
		for used := range 7 {
			head := "R" + string([]byte{byte(told)}) + two(9) + four(7) + two(5)
			body := encrypted(used, head[:8], putText("k", "v"))
			files := []api.File{c.segment(1, 1, 6)}
			files[0].Bytes += head + body + tagged(used, c.tag(6)+head+body)
			if told == 2 && used == 2 {
				wantOpens(t, "the keys of the epoch", c, 6, files, 7, after, files)
			} else {
				wantTampered(t, fmt.Sprintf("the epoch %d, keys of %d", told, used), c, 6, files)
			}
		}
	}
	for told := range 7 {
		head := "K" + string([]byte{byte(told)}) + two(9) + four(7) + two(0)
		for used := range 7 {
			files := []api.File{c.segment(1, 1, 6)}
			files[0].Bytes += head + tagged(used, c.tag(6)+head)
			if told == 3 && used == 3 {
				wantOpens(t, "the keys of the next epoch", c, 6, files, 7, stateAt(6), files)
			} else {
				wantTampered(t, fmt.Sprintf("a K of the epoch %d, keys of %d", told, used), c, 6, files)
			}
		}
	}
}

// The epochs end at MaxEpoch.
func TestOpenEpochs(t *testing.T) {
	var c chain
	for range api.MaxEpoch + 1 {
		c.rotate()
	}
	for n := range api.MaxEpoch {
		files := []api.File{c.segment(1, 1, n+1)}
		wantOpens(t, "a record of the kind K", &c, n, files, n+1, pairs{}, files)
	}
	wantTampered(t, "an epoch too many", &c, api.MaxEpoch, []api.File{c.segment(1, 1, api.MaxEpoch+1)})
}

// The count is right, but the last record is not the one that was acknowledged;
// or the one ahead of the last.
func TestOpenAsksForTheMark(t *testing.T) {
	right, other := longChain(), longChain()
	right.batch(putText("f", "7"))
	other.batch(putText("f", "8"))
	other.batch(putText("g", "9"))
	right.batch(putText("g", "9"))
	wantTampered(t, "another last record", right, 7, []api.File{other.segment(1, 1, 7)})
	wantTampered(t, "one more, behind another record", right, 7, []api.File{other.segment(1, 1, 8)})
	wantTampered(t, "another last record in a segment of its own", right, 7, []api.File{right.segment(1, 1, 6), other.segment(2, 7, 7)})
	wantTampered(t, "a manifest of another last record", right, 7, []api.File{sheetAt(other, 7, 2, 3, 0).manifest()})
	alone := []api.File{sheetAt(right, 7, 2, 3, 0).manifest()}
	wantOpens(t, "a manifest of the last record", right, 7, alone, 7, pairs{}, alone)
	more := []api.File{alone[0], right.segment(4, 8, 8)}
	wantOpens(t, "a manifest, and one more", right, 7, more, 8, pairs{"g": "9"}, more)
	more = []api.File{sheetAt(other, 7, 2, 3, 0).manifest(), other.segment(4, 8, 8)}
	wantTampered(t, "a manifest of another last record, and one more", right, 7, more)
}

func TestOpenTakesManifests(t *testing.T) {
	c := longChain()
	full := "" // a snapshot of MaxParts parts
	for i := range 327 {
		full += pairText(fmt.Sprintf("%016d", i), strings.Repeat("v", 32))
	}
	full += pairText(strings.Repeat("x", 16), strings.Repeat("y", 16))
	if len(full) != api.MaxParts*api.PartSize {
		t.Fatalf("the snapshot has %d bytes", len(full))
	}
	for _, plain := range []string{
		pairText("k", ""), pairText("k", "v"), pairText("\x00", "\xff"),
		pairText("k", strings.Repeat("v", api.MaxValue)) + pairText(strings.Repeat("l", api.MaxKey), ""),
		pairText("a", strings.Repeat("v", 32)) + pairText("b", strings.Repeat("v", 25)), // one byte less than a part
		pairText("a", strings.Repeat("v", 32)) + pairText("b", strings.Repeat("v", 26)), // a part
		pairText("a", strings.Repeat("v", 32)) + pairText("b", strings.Repeat("v", 27)), // one byte more
		pairText("\x7f", "") + pairText("\x80", "") + pairText("\x80\x00", "") + pairText("\xff", ""),
		full, full[:len(full)-34],
	} {
		p := pairs{}
		for rest := plain; rest != ""; {
			k, v := int(rest[0]), int(rest[1])
			p[rest[2:2+k]] = rest[2+k : 2+k+v]
			rest = rest[2+k+v:]
		}
		for _, file := range []int{10001, 10002} {
			for _, m := range []sheet{sheetAt(c, 6, 2, 3, file), {epoch: 5, opens: 65535, count: 6, shots: 65535, base: 9999, file: file, last: c.tag(6)}} {
				manifest, snapshot := m.shot(plain)
				files := []api.File{manifest, snapshot}
				wantOpens(t, fmt.Sprintf("a snapshot of %d bytes", len(plain)), c, 6, files, 6, p, files)
			}
		}
	}
	for _, file := range []int{0, 1, 10001, 10002, 65535} {
		files := []api.File{sheetAt(c, 6, 2, 3, file).manifest()}
		wantOpens(t, "a manifest of no parts", c, 6, files, 6, pairs{}, files)
	}
}

func TestOpenRefusesManifests(t *testing.T) {
	c := longChain()
	right := sheetAt(c, 6, 2, 3, 10001)
	plain := pairText("a", "1") + pairText("b", strings.Repeat("2", 32)) + pairText("c", strings.Repeat("3", 32))
	manifest, snapshot := right.shot(plain)
	resealed := func(epoch int, text string) api.File {
		return api.File{Number: 0, Bytes: text + tagged(epoch, text)}
	}
	text := manifest.Bytes[:84]
	files := map[string][]api.File{
		"a byte less":           {resealed(2, text[:83]), snapshot},
		"a byte more":           {resealed(2, text+"\x00"), snapshot},
		"nothing but a tag":     {resealed(2, ""), snapshot},
		"one byte":              {{Number: 0, Bytes: "M"}, snapshot},
		"a byte behind":         {{Number: 0, Bytes: manifest.Bytes + "\x00"}, snapshot},
		"another letter":        {resealed(2, "m"+text[1:]), snapshot},
		"another epoch's tag":   {resealed(1, text), snapshot},
		"no snapshot":           {manifest},
		"the other file":        {manifest, {Number: 10002, Bytes: snapshot.Bytes}},
		"a snapshot too short":  {manifest, {Number: 10001, Bytes: snapshot.Bytes[:len(snapshot.Bytes)-1]}},
		"a snapshot too long":   {manifest, {Number: 10001, Bytes: snapshot.Bytes + "x"}},
		"parts in other places": {manifest, {Number: 10001, Bytes: snapshot.Bytes[64:] + snapshot.Bytes[:64]}},
	}
	change := func(what string, by func(m *sheet)) {
		m := right
		m.length, m.root = len(plain), rootOf([]string{snapshot.Bytes[:64], snapshot.Bytes[64:]})
		by(&m)
		files[what] = []api.File{m.manifest(), snapshot}
	}
	change("a count too low", func(m *sheet) { m.count = 5 })
	change("a count too high", func(m *sheet) { m.count = 7 })
	change("the greatest count", func(m *sheet) { m.count = math.MaxUint32 })
	change("another last tag", func(m *sheet) { m.last = c.tag(5) })
	change("another root", func(m *sheet) { m.root = rootOf([]string{snapshot.Bytes}) })
	change("the root of no parts", func(m *sheet) { m.root = rootOf(nil) })
	change("a length of 0 and a root", func(m *sheet) { m.length = 0 })
	change("a length of 0 and no root", func(m *sheet) { m.length, m.root = 0, zeros })
	change("a length too low", func(m *sheet) { m.length-- })
	change("a length too high", func(m *sheet) { m.length++ })
	change("the greatest length", func(m *sheet) { m.length = math.MaxUint32 })
	change("another epoch", func(m *sheet) { m.epoch = 1 })
	for what, files := range files {
		wantTampered(t, "a manifest with "+what, c, 6, files)
	}
	for _, number := range []int{0, 1, 4, 9999, 10000, 10003, 65535} {
		m := right
		m.file = number
		manifest, snapshot := m.shot(plain)
		files := []api.File{manifest, snapshot}
		if number == 0 {
			files = files[:1]
		}
		wantTampered(t, fmt.Sprintf("a snapshot in file %d", number), c, 6, files)
	}
	for _, epoch := range []int{api.MaxEpoch + 1, 255} {
		m := right
		m.epoch = epoch
		manifest, snapshot := m.shot(plain)
		wantTampered(t, "a manifest of an epoch too many", c, 6, []api.File{manifest, snapshot})
	}
}

// The snapshot's length and its root go with each other and with its file, but
// what it says is not what Snapshot writes.
func TestOpenRefusesSnapshots(t *testing.T) {
	c := longChain()
	long, wide := strings.Repeat("k", api.MaxKey), strings.Repeat("v", api.MaxValue)
	tooMany := ""
	for i := range 328 {
		tooMany += pairText(fmt.Sprintf("%016d", i), wide)
	}
	for what, plain := range map[string]string{
		"no key":                 pairText("", "v"),
		"a key too long":         pairText(long+"k", "v"),
		"a value too long":       pairText("k", wide+"v"),
		"a key twice":            pairText("k", "1") + pairText("k", "2"),
		"keys in another order":  pairText("b", "1") + pairText("a", "2"),
		"a key above too early":  pairText("a", "") + pairText("c", "") + pairText("b", ""),
		"keys as if of signs":    pairText("\x80", "") + pairText("\x7f", ""),
		"a longer key first":     pairText("aa", "") + pairText("a", ""),
		"a byte behind":          pairText("k", "v") + "\x01",
		"two bytes behind":       pairText("k", "v") + "\x01\x00",
		"a 0 behind":             pairText("k", "v") + "\x00\x00",
		"half a key":             "\x03\x00kk",
		"half a value":           "\x01\x03kvv",
		"puts, as of a record":   putText("k", "v"),
		"more parts than may be": tooMany,
		"one byte too many":      tooMany[:api.MaxParts*api.PartSize+1],
	} {
		manifest, snapshot := sheetAt(c, 6, 2, 3, 10001).shot(plain)
		wantTampered(t, "a snapshot with "+what, c, 6, []api.File{manifest, snapshot})
	}
}

// A part's nonce has the manifest's epoch, opens and shots, and the part's place.
func TestOpenDecryptsByTheNonce(t *testing.T) {
	c := longChain()
	plain := pairText("a", strings.Repeat("1", 32)) + pairText("b", strings.Repeat("2", 32))
	right := sheetAt(c, 6, 2, 3, 10001)
	for _, by := range []func(m *sheet){
		func(m *sheet) { m.opens = 6 }, func(m *sheet) { m.opens = 5 << 8 }, func(m *sheet) { m.shots = 4 }, func(m *sheet) { m.shots = 3 << 8 },
	} {
		other := right
		by(&other)
		_, snapshot := right.shot(plain)
		manifest, wrong := other.shot(plain)
		wantOpens(t, "another nonce", c, 6, []api.File{manifest, wrong}, 6, pairs{"a": strings.Repeat("1", 32), "b": strings.Repeat("2", 32)}, []api.File{manifest, wrong})
		other.length, other.root = len(plain), rootOf([]string{snapshot.Bytes[:64], snapshot.Bytes[64:]})
		wantTampered(t, "parts of another nonce", c, 6, []api.File{other.manifest(), snapshot})
	}
}

// The log behind a manifest: its epoch, its count, its base and its last tag.
func TestOpenRefusesLogsBehindManifests(t *testing.T) {
	c := longChain()
	behind := []api.File{c.segment(8, 4, 5), c.segment(9, 6, 6)}
	plain := snapshotText(stateAt(3))
	right := sheetAt(c, 3, 1, 7, 10001)
	for what, by := range map[string]func(m *sheet){
		"an epoch below":        func(m *sheet) { m.epoch = 0 },
		"an epoch above":        func(m *sheet) { m.epoch = 2 },
		"a count below":         func(m *sheet) { m.count = 2 },
		"a count above":         func(m *sheet) { m.count = 4 },
		"a base below":          func(m *sheet) { m.base = 6 },
		"a base above":          func(m *sheet) { m.base = 8 },
		"a base behind all":     func(m *sheet) { m.base = 9 },
		"a base without end":    func(m *sheet) { m.base = math.MaxUint32 },
		"another last tag":      func(m *sheet) { m.last = c.tag(2) },
		"a last tag of nothing": func(m *sheet) { m.last = zeros },
	} {
		m := right
		by(&m)
		manifest, snapshot := m.shot(plain)
		files := slices.Concat([]api.File{manifest}, behind, []api.File{snapshot})
		wantTampered(t, "a manifest with "+what, c, 6, files)
	}
	manifest, snapshot := right.shot(plain)
	wantTampered(t, "a manifest gone, its log there", c, 6, slices.Concat(behind, []api.File{snapshot}))
	wantTampered(t, "segments from 1 on", c, 6, []api.File{manifest, c.segment(1, 4, 5), c.segment(2, 6, 6), snapshot})
}

// The tags go on from the manifest to the mark, but counts are left out between.
func TestOpenRefusesALogThatLeavesCountsOut(t *testing.T) {
	c := longChain()
	plain := snapshotText(stateAt(5))
	for _, count := range []int{3, 4, 5} {
		manifest, snapshot := sheet{epoch: 2, count: count, base: 7, file: 10001, last: c.tag(5)}.shot(plain)
		late := api.File{Number: 8, Bytes: first(8, count+1) + c.records[5]}
		files := []api.File{manifest, late, snapshot}
		if count == 5 {
			wantOpens(t, "no count left out", c, 6, files, 6, stateAt(6), files)
		} else {
			wantTampered(t, "counts left out", c, 6, files)
		}
	}
}
