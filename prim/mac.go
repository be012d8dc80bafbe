package prim

// mac is HMAC-SHA-256 without the bounds on the texts.
func mac(key string, x string) string {
	if len(key) > chunkSize {
		key = sum(key)
	}
	inner := sum(keyChunk(key, 0x36) + x)
	return sum(keyChunk(key, 0x5c) + inner)
}

// keyChunk is the key, filled up with bytes 0 to a chunk, each byte XOR mask.
// The key has at most chunkSize bytes.
func keyChunk(key string, mask byte) string {
	var chunk [chunkSize]byte
	copy(chunk[:], key)
	for i := range chunk {
		chunk[i] ^= mask
	}
	return string(chunk[:])
}

// expand tells the first n bytes of HKDF's blocks (RFC 5869, 2.3). A block's
// number is one byte, so n is at most MaxDerive.
func expand(key string, info string, n int) string {
	var out []byte
	block := ""
	for number := byte(1); len(out) < n; number++ {
		block = mac(key, block+info+string([]byte{number}))
		out = append(out, block...)
	}
	return string(out[:n])
}
