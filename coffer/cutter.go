package coffer

import "errors"

// errTampered is what looking through the disk gives up with, by a panic, as
// soon as something is not as the store writes it.
var errTampered = errors.New("somebody has been at the disk")

// require gives up if what must hold of the disk does not.
func require(holds bool) {
	if !holds {
		panic(errTampered)
	}
}

// u8, u16 and u32 are a number as one, two and four bytes, the greatest first.
func u8(n int) string  { return string([]byte{byte(n)}) }
func u16(n int) string { return u8(n>>8) + u8(n) }
func u32(n int) string { return u16(n>>16) + u16(n) }

// cutter takes a text of the disk apart, from its front on.
type cutter struct {
	rest string
}

// take cuts the next n bytes off; it gives up if there are fewer.
func (c *cutter) take(n int) string {
	require(n <= len(c.rest))
	front := c.rest[:n]
	c.rest = c.rest[n:]
	return front
}

// number cuts off a number of so many bytes.
func (c *cutter) number(size int) int {
	n := 0
	for _, b := range []byte(c.take(size)) {
		n = n<<8 | int(b)
	}
	return n
}
