// Package prim: hashes and ciphers: see DOC.md, P3 to P7.
package prim

import "coffer/api"

// maxInfo leaves room for a block and its number beside the info, so that
// each text that Derive hashes keeps within MaxText.
const maxInfo = api.MaxText - sumSize - 1

// maxPart leaves room for the byte that marks a part in the tree.
const maxPart = api.MaxText - 1

// Sum is SHA-256 (P3).
func Sum(x string) (string, api.Errno) {
	if len(x) > api.MaxText {
		return "", api.ErrLong
	}
	return sum(x), api.OK
}

// Mac is HMAC-SHA-256 (P3).
func Mac(key string, x string) (string, api.Errno) {
	if len(key) > api.MaxText || len(x) > api.MaxText {
		return "", api.ErrLong
	}
	return mac(key, x), api.OK
}

// Derive is HKDF with SHA-256 (P4).
func Derive(secret string, salt string, info string, n int) (string, api.Errno) {
	if len(secret) > api.MaxText || len(salt) > api.MaxText || len(info) > maxInfo {
		return "", api.ErrLong
	}
	if n < 0 || n > api.MaxDerive {
		return "", api.ErrSize
	}
	return expand(mac(salt, secret), info, n), api.OK
}

// Root is the root of a tree of hashes (P5).
func Root(parts []string) (string, api.Errno) {
	if len(parts) > api.MaxParts {
		return "", api.ErrLong
	}
	for _, part := range parts {
		if len(part) > maxPart {
			return "", api.ErrLong
		}
	}
	return root(parts), api.OK
}

// Block is AES-128 (P6).
func Block(key string, x string) (string, api.Errno) {
	if len(key) != blockSize || len(x) != blockSize {
		return "", api.ErrSize
	}
	out := newCipher(key).encrypt(block([]byte(x)))
	return string(out[:]), api.OK
}

// Stream is AES-128 in counter mode (P7).
func Stream(key string, nonce string, x string) (string, api.Errno) {
	if len(key) != blockSize || len(nonce) != nonceSize {
		return "", api.ErrSize
	}
	if len(x) > api.MaxText {
		return "", api.ErrLong
	}
	return stream(key, nonce, x), api.OK
}
