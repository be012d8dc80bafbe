package prim_test

import (
	"encoding/hex"
	"strings"
	"testing"

	"coffer/api"
)

// fromHex tells the bytes that hexadecimal digits, perhaps with blanks, stand for.
func fromHex(t *testing.T, digits string) string {
	t.Helper()
	b, err := hex.DecodeString(strings.ReplaceAll(digits, " ", ""))
	if err != nil {
		t.Fatal(err)
	}
	return string(b)
}

// mixed is a text of n bytes in which all byte values come, in an uneven order
// that hangs on the seed.
func mixed(n int, seed int) string {
	b := make([]byte, n)
	x := uint32(seed)*2654435761 + 12345
	for i := range b {
		x = x*1664525 + 1013904223
		b[i] = byte(x >> 24)
	}
	return string(b)
}

// wantText fails the test if a call did not answer this text and OK.
func wantText(t *testing.T, call string, got string, e api.Errno, want string) {
	t.Helper()
	if e != api.OK || got != want {
		t.Errorf("%s = %x, %d, want %x, %d", call, got, e, want, api.OK)
	}
}

// wantError fails the test if a call did not answer this error and no text.
func wantError(t *testing.T, call string, got string, e api.Errno, want api.Errno) {
	t.Helper()
	if e != want || got != "" {
		t.Errorf("%s = %x, %d, want no text, %d", call, got, e, want)
	}
}
