package prim_test

import (
	"crypto/aes"
	"fmt"
	"strings"
	"testing"

	"coffer/api"
	"coffer/prim"
)

// wantBlock is AES by the library, to hold Block against.
func wantBlock(t *testing.T, key string, x string) string {
	t.Helper()
	c, err := aes.NewCipher([]byte(key))
	if err != nil {
		t.Fatal(err)
	}
	out := make([]byte, aes.BlockSize)
	c.Encrypt(out, []byte(x))
	return string(out)
}

// checkBlock tells what Block answered.
func checkBlock(t *testing.T, key string, x string) string {
	t.Helper()
	got, e := prim.Block(key, x)
	wantText(t, fmt.Sprintf("P6: Block(%x, %x)", key, x), got, e, wantBlock(t, key, x))
	return got
}

// The blocks of FIPS 197, appendices B and C.1, and of SP 800-38A, F.1.1 and F.5.1.
func TestBlockOfKnownTexts(t *testing.T) {
	const key = "2b7e151628aed2a6abf7158809cf4f3c"
	for _, c := range []struct{ key, x, want string }{
		{"000102030405060708090a0b0c0d0e0f", "00112233445566778899aabbccddeeff", "69c4e0d86a7b0430d8cdb78070b4c55a"},
		{key, "3243f6a8885a308d313198a2e0370734", "3925841d02dc09fbdc118597196a0b32"},
		{key, "6bc1bee22e409f96e93d7e117393172a", "3ad77bb40d7a3660a89ecaf32466ef97"},
		{key, "ae2d8a571e03ac9c9eb76fac45af8e51", "f5d3d58503b9699de785895a96fdbaaf"},
		{key, "30c81c46a35ce411e5fbc1191a0a52ef", "43b1cd7f598ece23881b00e3ed030688"},
		{key, "f69f2445df4f9b17ad2b417be66c3710", "7b0c785e27e8ad3f8223207104725dd4"},
		{key, "f0f1f2f3f4f5f6f7f8f9fafbfcfdfeff", "ec8cdf7398607cb0f2d21675ea9ea1e4"},
		{key, "f0f1f2f3f4f5f6f7f8f9fafbfcfdff00", "362b7c3c6773516318a077d7fc5073ae"},
	} {
		got, e := prim.Block(fromHex(t, c.key), fromHex(t, c.x))
		wantText(t, fmt.Sprintf("P6: Block(%s, %s)", c.key, c.x), got, e, fromHex(t, c.want))
	}
}

// Each byte value at each place, of the key and of the text.
func TestBlockOfEveryByte(t *testing.T) {
	zeros := strings.Repeat("\x00", 16)
	for place := range 16 {
		for value := range 256 {
			x := zeros[:place] + string([]byte{byte(value)}) + zeros[place+1:]
			checkBlock(t, zeros, x)
			checkBlock(t, x, zeros)
			checkBlock(t, x, x)
		}
	}
}

// Each answer is the next block, and changes the next key.
func TestBlockOfItsOwnAnswers(t *testing.T) {
	key, x := mixed(16, 1), mixed(16, 2)
	for range 1000 {
		x = checkBlock(t, key, x)
		key = wantBlock(t, x, key)
	}
}

func TestBlockOfOtherSizes(t *testing.T) {
	sizes := []int{0, 1, 8, 15, 16, 17, 24, 31, 32, 33, 64, api.MaxText, api.MaxText + 1, 1 << 20}
	for _, k := range sizes {
		for _, n := range sizes {
			key, x := mixed(k, 1), mixed(n, 2)
			if k == 16 && n == 16 {
				checkBlock(t, key, x)
				continue
			}
			got, e := prim.Block(key, x)
			wantError(t, fmt.Sprintf("P6: Block of %d and %d bytes", k, n), got, e, api.ErrSize)
		}
	}
}

// Sizes are those of bytes, not of runes.
func TestBlockCountsBytes(t *testing.T) {
	key, runes := mixed(16, 1), strings.Repeat("é", 16)
	checkBlock(t, key, runes[:16])
	checkBlock(t, runes[:16], key)
	for _, c := range [][2]string{{key, runes}, {runes, key}} {
		got, e := prim.Block(c[0], c[1])
		wantError(t, fmt.Sprintf("P6: Block(%q, %q)", c[0], c[1]), got, e, api.ErrSize)
	}
}
