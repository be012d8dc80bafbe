package prim_test

import (
	"crypto/aes"
	"crypto/cipher"
	"fmt"
	"strings"
	"testing"

	"coffer/api"
	"coffer/prim"
)

// wantStream is AES in counter mode by the library, to hold Stream against.
func wantStream(t *testing.T, key string, nonce string, x string) string {
	t.Helper()
	c, err := aes.NewCipher([]byte(key))
	if err != nil {
		t.Fatal(err)
	}
	out := make([]byte, len(x))
	first := []byte(nonce + strings.Repeat("\x00", 8))
	cipher.NewCTR(c, first).XORKeyStream(out, []byte(x))
	return string(out)
}

// checkStream tells what Stream answered.
func checkStream(t *testing.T, key string, nonce string, x string) string {
	t.Helper()
	got, e := prim.Stream(key, nonce, x)
	wantText(t, fmt.Sprintf("P7: Stream(%x, %x, %d bytes)", key, nonce, len(x)), got, e, wantStream(t, key, nonce, x))
	return got
}

// Test vector 1 of RFC 3686 begins at the number 1, so its text stands in the
// second block here.
func TestStreamOfAKnownText(t *testing.T) {
	key, nonce := fromHex(t, "ae6852f8121067cc4bf7a5765577f39e"), fromHex(t, "0000003000000000")
	got, e := prim.Stream(key, nonce, strings.Repeat("\x00", 16)+"Single block msg")
	if e != api.OK || len(got) != 32 {
		t.Fatalf("P7: Stream of 32 bytes: %x, %d", got, e)
	}
	wantText(t, "P7: the second block", got[16:], e, fromHex(t, "e4095d4fb7a7b3792d6175a3261311b8"))
}

// A text of bytes 0 shows the blocks themselves.
func TestStreamIsBlocksInARow(t *testing.T) {
	key, nonce := fromHex(t, "2b7e151628aed2a6abf7158809cf4f3c"), fromHex(t, "f0f1f2f3f4f5f6f7")
	got, e := prim.Stream(key, nonce, strings.Repeat("\x00", api.MaxText))
	if e != api.OK || len(got) != api.MaxText {
		t.Fatalf("P7: Stream of %d bytes: %d bytes, %d", api.MaxText, len(got), e)
	}
	for i := range api.MaxText / 16 {
		number := strings.Repeat("\x00", 7) + string([]byte{byte(i)})
		want, e := prim.Block(key, nonce+number)
		wantText(t, fmt.Sprintf("P7: block %d", i), got[16*i:16*i+16], e, want)
	}
}

// Texts that end inside a block, at its end, and one byte behind it.
func TestStreamAtEveryLength(t *testing.T) {
	key, nonce := mixed(16, 1), mixed(8, 2)
	for n := range 100 {
		x := mixed(n, n)
		back := checkStream(t, key, nonce, checkStream(t, key, nonce, x))
		if back != x {
			t.Errorf("P7: Stream twice of %x is %x", x, back)
		}
	}
}

func TestStreamOfTheEmptyText(t *testing.T) {
	got, e := prim.Stream(mixed(16, 1), mixed(8, 2), "")
	wantText(t, "P7: Stream of the empty text", got, e, "")
}

func TestStreamOfManyKeysAndNonces(t *testing.T) {
	for i := range 200 {
		checkStream(t, mixed(16, i), mixed(8, i+1), mixed(50, i+2))
	}
	ones := strings.Repeat("\xff", 16)
	checkStream(t, ones, ones[:8], mixed(api.MaxText, 1))
}

func TestStreamAtTheBound(t *testing.T) {
	key, nonce := mixed(16, 1), mixed(8, 2)
	for n := api.MaxText - 17; n <= api.MaxText; n++ {
		checkStream(t, key, nonce, mixed(n, n))
	}
	for _, n := range []int{api.MaxText + 1, api.MaxText + 16, 1 << 20} {
		got, e := prim.Stream(key, nonce, mixed(n, n))
		wantError(t, fmt.Sprintf("P7: Stream of %d bytes", n), got, e, api.ErrLong)
	}
}

// A wrong size comes ahead of a text that is too long.
func TestStreamOfOtherSizes(t *testing.T) {
	keys := []int{0, 8, 15, 16, 17, 24, 32, api.MaxText + 1}
	nonces := []int{0, 7, 8, 9, 12, 16, api.MaxText + 1}
	for _, k := range keys {
		for _, m := range nonces {
			if k == 16 && m == 8 {
				continue
			}
			for _, n := range []int{0, 1, 16, api.MaxText, api.MaxText + 1} {
				got, e := prim.Stream(mixed(k, 1), mixed(m, 2), mixed(n, 3))
				wantError(t, fmt.Sprintf("P7: Stream of %d, %d and %d bytes", k, m, n), got, e, api.ErrSize)
			}
		}
	}
}
