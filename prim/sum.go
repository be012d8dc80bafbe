package prim

import "math/bits"

const (
	chunkSize  = 64 // the bytes that SHA-256 takes in at a time
	sumSize    = 32 // the bytes of a hash
	lengthSize = 8  // the bytes behind the padding that tell the length
)

// roundWords: the fractions of the cube roots of the first 64 primes (FIPS 180-4, 4.2.2).
var roundWords = [64]uint32{
	0x428a2f98, 0x71374491, 0xb5c0fbcf, 0xe9b5dba5, 0x3956c25b, 0x59f111f1, 0x923f82a4, 0xab1c5ed5,
	0xd807aa98, 0x12835b01, 0x243185be, 0x550c7dc3, 0x72be5d74, 0x80deb1fe, 0x9bdc06a7, 0xc19bf174,
	0xe49b69c1, 0xefbe4786, 0x0fc19dc6, 0x240ca1cc, 0x2de92c6f, 0x4a7484aa, 0x5cb0a9dc, 0x76f988da,
	0x983e5152, 0xa831c66d, 0xb00327c8, 0xbf597fc7, 0xc6e00bf3, 0xd5a79147, 0x06ca6351, 0x14292967,
	0x27b70a85, 0x2e1b2138, 0x4d2c6dfc, 0x53380d13, 0x650a7354, 0x766a0abb, 0x81c2c92e, 0x92722c85,
	0xa2bfe8a1, 0xa81a664b, 0xc24b8b70, 0xc76c51a3, 0xd192e819, 0xd6990624, 0xf40e3585, 0x106aa070,
	0x19a4c116, 0x1e376c08, 0x2748774c, 0x34b0bcb5, 0x391c0cb3, 0x4ed8aa4a, 0x5b9cca4f, 0x682e6ff3,
	0x748f82ee, 0x78a5636f, 0x84c87814, 0x8cc70208, 0x90befffa, 0xa4506ceb, 0xbef9a3f7, 0xc67178f2,
}

// sum is SHA-256 without the bound on the text: the inner text of a Mac may
// be longer than MaxText.
func sum(x string) string {
	state := [8]uint32{
		0x6a09e667, 0xbb67ae85, 0x3c6ef372, 0xa54ff53a,
		0x510e527f, 0x9b05688c, 0x1f83d9ab, 0x5be0cd19,
	}
	text := pad(x)
	for at := 0; at < len(text); at += chunkSize {
		state = takeIn(state, schedule(text[at:at+chunkSize]))
	}
	return wordBytes(state)
}

// pad lays behind x a bit 1, bits 0 and its length in bits, up to whole chunks.
func pad(x string) []byte {
	chunks := (len(x) + 1 + lengthSize + chunkSize - 1) / chunkSize
	text := make([]byte, chunks*chunkSize)
	copy(text, x)
	text[len(x)] = 0x80
	length := uint64(len(x)) * 8
	for i := 1; i <= lengthSize; i++ {
		text[len(text)-i] = byte(length)
		length >>= 8
	}
	return text
}

// schedule stretches a chunk to one word for each round.
func schedule(chunk []byte) [64]uint32 {
	var w [64]uint32
	for i := range 16 {
		at := 4 * i
		w[i] = uint32(chunk[at])<<24 | uint32(chunk[at+1])<<16 | uint32(chunk[at+2])<<8 | uint32(chunk[at+3])
	}
	for i := 16; i < 64; i++ {
		w[i] = w[i-16] + smallSigma0(w[i-15]) + w[i-7] + smallSigma1(w[i-2])
	}
	return w
}

// takeIn goes through the rounds and adds what comes out to the state.
func takeIn(state [8]uint32, w [64]uint32) [8]uint32 {
	s := state
	for i := range 64 {
		s = turn(s, roundWords[i]+w[i])
	}
	for i := range 8 {
		s[i] += state[i]
	}
	return s
}

// turn is one round; the letters are those of FIPS 180-4, 6.2.2.
func turn(s [8]uint32, word uint32) [8]uint32 {
	a, b, c, d, e, f, g, h := s[0], s[1], s[2], s[3], s[4], s[5], s[6], s[7]
	t1 := h + bigSigma1(e) + choose(e, f, g) + word
	t2 := bigSigma0(a) + majority(a, b, c)
	return [8]uint32{t1 + t2, a, b, c, d + t1, e, f, g}
}

func choose(x, y, z uint32) uint32 { return x&y ^ ^x&z }

func majority(x, y, z uint32) uint32 { return x&y ^ x&z ^ y&z }

func bigSigma0(x uint32) uint32 { return rotr(x, 2) ^ rotr(x, 13) ^ rotr(x, 22) }

func bigSigma1(x uint32) uint32 { return rotr(x, 6) ^ rotr(x, 11) ^ rotr(x, 25) }

func smallSigma0(x uint32) uint32 { return rotr(x, 7) ^ rotr(x, 18) ^ x>>3 }

func smallSigma1(x uint32) uint32 { return rotr(x, 17) ^ rotr(x, 19) ^ x>>10 }

func rotr(x uint32, n int) uint32 { return bits.RotateLeft32(x, -n) }

// wordBytes tells the words as bytes, the greatest first.
func wordBytes(words [8]uint32) string {
	out := make([]byte, 0, sumSize)
	for _, w := range words {
		out = append(out, byte(w>>24), byte(w>>16), byte(w>>8), byte(w))
	}
	return string(out)
}
