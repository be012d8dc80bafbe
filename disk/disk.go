// Package disk: numbered files, the steps that change them, and the crash that
// may come between two steps: see DOC.md, 'Words', P15 and P16.
package disk

import (
	"errors"
	"maps"
	"slices"

	"coffer/api"
)

// ErrCrashed is what a step panics with when the machine stops ahead of it:
// whoever wanted the step, however deep inside, does nothing more.
var ErrCrashed = errors.New("the machine stopped")

// file: its bytes, and how many of them, from the front, a crash leaves.
type file struct {
	bytes   string
	flushed int
}

// crash: how many steps are done ahead of it, and how many bytes that were not
// flushed it leaves of each file.
type crash struct {
	after int
	torn  int
}

// Disk is a disk. A file without bytes is not there, so none is kept.
type Disk struct {
	room  int
	files map[int]file
	next  *crash // nil, if none is to come
}

// New makes an empty disk.
func New(room int) *Disk {
	return &Disk{room: room, files: map[int]file{}}
}

// Crash says when the machine will stop.
func (d *Disk) Crash(after int, torn int) {
	d.next = &crash{after: after, torn: torn}
}

// Append is a step: bytes come behind those of a file, which is made if it is
// not there.
func (d *Disk) Append(number int, bytes string) {
	d.step()
	f := d.files[number]
	d.lay(number, file{bytes: f.bytes + bytes, flushed: f.flushed})
}

// Flush is a step: what was appended to a file outlasts a crash.
func (d *Disk) Flush(number int) {
	d.step()
	d.lay(number, flushed(d.files[number].bytes))
}

// Replace is a step: a file, which is made if it is not there, has these bytes
// and no others.
func (d *Disk) Replace(number int, bytes string) {
	d.step()
	d.lay(number, flushed(bytes))
}

// Cut is a step: a file keeps its first bytes alone. The length is not above
// that of the file.
func (d *Disk) Cut(number int, length int) {
	d.step()
	d.lay(number, flushed(d.files[number].bytes[:length]))
}

// Remove is a step: a file is no longer there.
func (d *Disk) Remove(number int) {
	d.step()
	delete(d.files, number)
}

// Bytes tells a file's bytes; none, if it is not there.
func (d *Disk) Bytes(number int) string {
	return d.files[number].bytes
}

// Numbers tells the numbers of all files, in their order.
func (d *Disk) Numbers() []int {
	return slices.Sorted(maps.Keys(d.files))
}

// Free tells how many bytes there is room for.
func (d *Disk) Free() int {
	free := d.room
	for _, f := range d.files {
		free -= len(f.bytes)
	}
	return free
}

// Image tells all files (P9).
func (d *Disk) Image() []api.File {
	var image []api.File
	for _, number := range d.Numbers() {
		image = append(image, api.File{Number: number, Bytes: d.Bytes(number)})
	}
	return image
}

// Load puts these files in the place of all that are there (P16).
func (d *Disk) Load(files []api.File) api.Errno {
	if !d.canHold(files) {
		return api.ErrArg
	}
	clear(d.files)
	for _, f := range files {
		d.files[f.Number] = flushed(f.Bytes)
	}
	return api.OK
}

func (d *Disk) canHold(files []api.File) bool {
	if len(files) > api.MaxFiles {
		return false
	}
	above, room := -1, d.room
	for _, f := range files {
		if f.Number <= above || f.Bytes == "" || len(f.Bytes) > room {
			return false
		}
		above = f.Number
		room -= len(f.Bytes)
	}
	return true
}

// step comes ahead of each step: here the machine stops, if it is time.
func (d *Disk) step() {
	if d.next == nil {
		return
	}
	if d.next.after > 0 {
		d.next.after--
		return
	}
	torn := d.next.torn
	d.next = nil
	d.lose(torn)
	panic(ErrCrashed)
}

// lose takes from each file what was not flushed, but for the first torn bytes
// of that.
func (d *Disk) lose(torn int) {
	for _, number := range d.Numbers() {
		f := d.files[number]
		left := f.flushed + min(torn, len(f.bytes)-f.flushed)
		d.lay(number, flushed(f.bytes[:left]))
	}
}

// lay puts a file in its place.
func (d *Disk) lay(number int, f file) {
	if f.bytes == "" {
		delete(d.files, number)
		return
	}
	d.files[number] = f
}

// flushed is a file of which a crash takes nothing.
func flushed(bytes string) file {
	return file{bytes: bytes, flushed: len(bytes)}
}
