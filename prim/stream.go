package prim

const nonceSize = 8

// stream is AES-128 in counter mode (SP 800-38A, 6.5), of texts that keep to
// their bounds.
func stream(key string, nonce string, x string) string {
	c := newCipher(key)
	out := []byte(x)
	for at := 0; at < len(out); at += blockSize {
		pad := c.encrypt(counterBlock(nonce, uint64(at/blockSize)))
		rest := out[at:min(at+blockSize, len(out))]
		for i := range rest {
			rest[i] ^= pad[i]
		}
	}
	return string(out)
}

// counterBlock is the nonce and behind it the number, its greatest byte first.
func counterBlock(nonce string, number uint64) block {
	var b block
	copy(b[:nonceSize], nonce)
	for i := blockSize - 1; i >= nonceSize; i-- {
		b[i] = byte(number)
		number >>= 8
	}
	return b
}
