package prim

import "math/bits"

const (
	blockSize = 16 // the bytes of a block, and of a key of AES-128
	wordSize  = 4  // the bytes of a column of a block
	rounds    = 10
)

// block holds its bytes column by column, as they come in the text.
type block [blockSize]byte

// cipher is what AES-128 works out of a key ahead of the first block.
type cipher struct {
	box  [256]byte
	keys [rounds + 1]block
}

// newCipher takes a key of blockSize bytes.
func newCipher(key string) *cipher {
	c := &cipher{box: substitutes()}
	copy(c.keys[0][:], key)
	constant := byte(1)
	for i := range rounds {
		c.keys[i+1] = c.nextKey(c.keys[i], constant)
		constant = double(constant)
	}
	return c
}

// substitutes tells for each byte the one that comes in its place (FIPS 197,
// 5.1.1). Byte 3 generates all the others but 0, so p, times 3 each turn, comes
// to all of them, while q, divided by 3 each turn, stays the inverse of p.
func substitutes() [256]byte {
	const shift = 0x63
	box := [256]byte{0: shift}
	p, q := byte(1), byte(1)
	for range 255 {
		box[p] = q ^ rotl(q, 1) ^ rotl(q, 2) ^ rotl(q, 3) ^ rotl(q, 4) ^ shift
		p ^= double(p)
		q = third(q)
	}
	return box
}

func rotl(x byte, n int) byte { return bits.RotateLeft8(x, n) }

// double is x times 2 in the field of 256 elements.
func double(x byte) byte {
	if x >= 0x80 {
		return x<<1 ^ 0x1b
	}
	return x << 1
}

// third is x divided by 3 in that field: x times 0xf6.
func third(x byte) byte {
	x ^= x << 1
	x ^= x << 2
	x ^= x << 4
	if x >= 0x80 {
		return x ^ 0x09
	}
	return x
}

// nextKey works out a round's key from the key of the round ahead.
func (c *cipher) nextKey(key block, constant byte) block {
	word := [wordSize]byte{c.box[key[13]] ^ constant, c.box[key[14]], c.box[key[15]], c.box[key[12]]}
	for i := range key {
		word[i%wordSize] ^= key[i]
		key[i] = word[i%wordSize]
	}
	return key
}

func (c *cipher) encrypt(x block) block {
	x = xor(x, c.keys[0])
	for i := 1; i < rounds; i++ {
		x = xor(mixColumns(c.substituteAndShift(x)), c.keys[i])
	}
	return xor(c.substituteAndShift(x), c.keys[rounds])
}

func xor(x block, y block) block {
	for i := range x {
		x[i] ^= y[i]
	}
	return x
}

// substituteAndShift moves each byte as many columns to the left as its row
// says, on its way through the box.
func (c *cipher) substituteAndShift(x block) block {
	var out block
	for i := range out {
		row := i % wordSize
		out[i] = c.box[x[(i+row*wordSize)%blockSize]]
	}
	return out
}

// mixColumns makes of each byte 2 of itself, 3 of the next one and 1 of each
// of the others of its column.
func mixColumns(x block) block {
	var out block
	for at := 0; at < blockSize; at += wordSize {
		all := x[at] ^ x[at+1] ^ x[at+2] ^ x[at+3]
		for row := range wordSize {
			own, next := x[at+row], x[at+(row+1)%wordSize]
			out[at+row] = all ^ own ^ double(own^next)
		}
	}
	return out
}
