package disk_test

import (
	"errors"
	"math"
	"slices"
	"strings"
	"testing"

	"coffer/api"
	"coffer/disk"
)

// crashes does a step and tells whether the machine stopped ahead of it.
func crashes(t *testing.T, step func()) (crashed bool) {
	t.Helper()
	defer func() {
		if r := recover(); r != nil {
			err, ok := r.(error)
			crashed = ok && errors.Is(err, disk.ErrCrashed)
			if !crashed {
				t.Fatalf("P15: the step panics with %v", r)
			}
		}
	}()
	step()
	return false
}

func wantImage(t *testing.T, what string, d *disk.Disk, want ...api.File) {
	t.Helper()
	if got := d.Image(); !slices.Equal(got, want) {
		t.Errorf("%s: the disk has %v, want %v", what, got, want)
	}
}

func TestSteps(t *testing.T) {
	d := disk.New(100)
	wantImage(t, "new", d)
	d.Append(7, "seven")
	d.Append(2, "two")
	d.Append(7, "teen")
	wantImage(t, "append", d, api.File{Number: 2, Bytes: "two"}, api.File{Number: 7, Bytes: "seventeen"})
	if free := d.Free(); free != 88 {
		t.Errorf("room for %d bytes, want 88", free)
	}
	if got := d.Bytes(7); got != "seventeen" {
		t.Errorf("file 7 has %q", got)
	}
	if got := d.Bytes(3); got != "" {
		t.Errorf("file 3, which is not there, has %q", got)
	}
	d.Flush(2)
	d.Flush(3)
	d.Cut(7, 5)
	wantImage(t, "cut", d, api.File{Number: 2, Bytes: "two"}, api.File{Number: 7, Bytes: "seven"})
	if got := d.Numbers(); !slices.Equal(got, []int{2, 7}) {
		t.Errorf("the numbers are %v", got)
	}
	d.Remove(2)
	d.Remove(3)
	d.Cut(7, 0)
	wantImage(t, "files without bytes are not there", d)
	if free := d.Free(); free != 100 {
		t.Errorf("room for %d bytes, want 100", free)
	}
}

// What stays of a file in a crash, by how much of it was flushed and by torn.
func TestCrashLosesWhatWasNotFlushed(t *testing.T) {
	for torn, want := range map[int]string{0: "abc", 1: "abcd", 2: "abcde", 3: "abcdef", 4: "abcdef", math.MaxInt: "abcdef"} {
		d := disk.New(100)
		d.Append(1, "abc")
		d.Flush(1)
		d.Append(1, "def")
		d.Append(2, "xyz")
		d.Crash(0, torn)
		if !crashes(t, func() { d.Flush(1) }) {
			t.Fatalf("P15: no crash")
		}
		image := []api.File{{Number: 1, Bytes: want}}
		if left := min(torn, 3); left > 0 {
			image = append(image, api.File{Number: 2, Bytes: "xyz"[:left]})
		}
		wantImage(t, "P15: torn", d, image...)
		d.Crash(0, 0)
		if !crashes(t, func() { d.Flush(1) }) {
			t.Fatalf("P15: no second crash")
		}
		wantImage(t, "P15: what stayed is flushed", d, image...)
	}
}

func TestCrashComesAfterSoManySteps(t *testing.T) {
	for after := range 7 {
		d := disk.New(100)
		d.Append(1, "one")
		d.Append(2, "two")
		d.Append(3, "three")
		d.Crash(0, 9)
		d.Crash(after, 9)
		steps := []func(){
			func() { d.Append(1, "s") },
			func() { d.Flush(1) },
			func() { d.Cut(2, 1) },
			func() { d.Replace(2, "other") },
			func() { d.Remove(3) },
			func() { d.Append(4, "four") },
		}
		for i, step := range steps {
			before := d.Image()
			if crashed := crashes(t, step); crashed != (i == after) {
				t.Errorf("P15: step %d of a crash after %d: crashed %v", i, after, crashed)
			}
			if i == after {
				wantImage(t, "P15: the step is not done", d, before...)
				break
			}
		}
	}
}

func TestCrashThatHasComeIsOver(t *testing.T) {
	d := disk.New(100)
	d.Crash(0, 0)
	if !crashes(t, func() { d.Append(1, "one") }) {
		t.Fatalf("P15: no crash")
	}
	for range 5 {
		if crashes(t, func() { d.Append(1, "one") }) {
			t.Errorf("P15: a crash comes twice")
		}
	}
}

// A file that is replaced has the new bytes alone, at once and for good.
func TestReplace(t *testing.T) {
	d := disk.New(100)
	d.Append(1, "not flushed")
	d.Replace(1, "one")
	d.Replace(2, "two")
	wantImage(t, "replaced", d, api.File{Number: 1, Bytes: "one"}, api.File{Number: 2, Bytes: "two"})
	d.Append(2, " more")
	d.Crash(0, 0)
	if !crashes(t, func() { d.Replace(1, "another") }) {
		t.Fatalf("P15: no crash")
	}
	wantImage(t, "P15: replaced files last", d, api.File{Number: 1, Bytes: "one"}, api.File{Number: 2, Bytes: "two"})
	d.Replace(1, "")
	wantImage(t, "a file without bytes is not there", d, api.File{Number: 2, Bytes: "two"})
	if free := d.Free(); free != 97 {
		t.Errorf("room for %d bytes, want 97", free)
	}
}

// Nobody need flush what was cut or removed.
func TestCutAndRemoveLast(t *testing.T) {
	d := disk.New(100)
	d.Append(1, "abc")
	d.Append(2, "def")
	d.Cut(1, 2)
	d.Remove(2)
	d.Crash(0, 0)
	if !crashes(t, func() { d.Flush(1) }) {
		t.Fatalf("P15: no crash")
	}
	wantImage(t, "P15: cut and removed", d, api.File{Number: 1, Bytes: "ab"})
}

func TestLoadBounds(t *testing.T) {
	many := func(n int) []api.File {
		var files []api.File
		for i := range n {
			files = append(files, api.File{Number: 3 * i, Bytes: "x"})
		}
		return files
	}
	good := [][]api.File{
		nil, {}, many(1), many(api.MaxFiles),
		{{Number: 0, Bytes: strings.Repeat("x", 100)}},
		{{Number: 5, Bytes: strings.Repeat("x", 99)}, {Number: math.MaxInt, Bytes: "x"}},
	}
	bad := [][]api.File{
		many(api.MaxFiles + 1),
		{{Number: -1, Bytes: "x"}}, {{Number: math.MinInt, Bytes: "x"}},
		{{Number: 1, Bytes: ""}}, {{Number: 1, Bytes: "x"}, {Number: 2, Bytes: ""}},
		{{Number: 1, Bytes: "x"}, {Number: 1, Bytes: "x"}}, {{Number: 2, Bytes: "x"}, {Number: 1, Bytes: "x"}},
		{{Number: 1, Bytes: strings.Repeat("x", 101)}},
		{{Number: 1, Bytes: strings.Repeat("x", 99)}, {Number: 2, Bytes: "xx"}},
	}
	d := disk.New(100)
	for _, files := range good {
		if e := d.Load(files); e != api.OK {
			t.Errorf("P16: Load of %d files: %d", len(files), e)
		}
		wantImage(t, "P16: Load", d, files...)
	}
	before := d.Image()
	for _, files := range bad {
		if e := d.Load(files); e != api.ErrArg {
			t.Errorf("P16: Load of %.80v: %d", files, e)
		}
		wantImage(t, "P16: a Load that is refused", d, before...)
	}
}

// What was loaded is flushed.
func TestLoadOutlastsACrash(t *testing.T) {
	d := disk.New(100)
	d.Load([]api.File{{Number: 1, Bytes: "abc"}})
	d.Crash(0, 0)
	if !crashes(t, func() { d.Append(1, "def") }) {
		t.Fatalf("P15: no crash")
	}
	wantImage(t, "P16: Load", d, api.File{Number: 1, Bytes: "abc"})
}
