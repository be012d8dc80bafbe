package prim_test

import (
	"crypto/hmac"
	"crypto/sha256"
	"fmt"
	"strings"
	"testing"

	"coffer/api"
	"coffer/prim"
)

// wantMac is HMAC-SHA-256 by the library, to hold Mac against.
func wantMac(key string, x string) string {
	h := hmac.New(sha256.New, []byte(key))
	h.Write([]byte(x))
	return string(h.Sum(nil))
}

func checkMac(t *testing.T, key string, x string) {
	t.Helper()
	got, e := prim.Mac(key, x)
	wantText(t, fmt.Sprintf("P3: Mac of %d and %d bytes", len(key), len(x)), got, e, wantMac(key, x))
}

// The texts of RFC 4231, but for the one with a cut answer.
func TestMacOfKnownTexts(t *testing.T) {
	for _, c := range []struct{ key, x, want string }{
		{
			strings.Repeat("\x0b", 20), "Hi There",
			"b0344c61 d8db3853 5ca8afce af0bf12b 881dc200 c9833da7 26e9376c 2e32cff7",
		},
		{
			"Jefe", "what do ya want for nothing?",
			"5bdcc146 bf60754e 6a042426 089575c7 5a003f08 9d273983 9dec58b9 64ec3843",
		},
		{
			strings.Repeat("\xaa", 20), strings.Repeat("\xdd", 50),
			"773ea91e 36800e46 854db8eb d09181a7 2959098b 3ef8c122 d9635514 ced565fe",
		},
		{
			fromHex(t, "0102030405060708090a0b0c0d0e0f10111213141516171819"), strings.Repeat("\xcd", 50),
			"82558a38 9a443c0e a4cc8198 99f2083a 85f0faa3 e578f807 7a2e3ff4 6729665b",
		},
		{
			strings.Repeat("\xaa", 131), "Test Using Larger Than Block-Size Key - Hash Key First",
			"60e43159 1ee0b67f 0d8a26aa cbf5b77f 8e0bc621 3728c514 0546040f 0ee37f54",
		},
		{
			strings.Repeat("\xaa", 131),
			"This is a test using a larger than block-size key and a larger than block-size data. " +
				"The key needs to be hashed before being used by the HMAC algorithm.",
			"9b09ffa7 1b942fcb 27635fbc d5b0e944 bfdc6364 4f071393 8a7f5153 5c3a35e2",
		},
	} {
		got, e := prim.Mac(c.key, c.x)
		wantText(t, fmt.Sprintf("P3: Mac(%q, %q)", c.key, c.x), got, e, fromHex(t, c.want))
	}
}

// A key of up to 64 bytes is taken as it is, a longer one is hashed first.
func TestMacAtEveryLengthOfKey(t *testing.T) {
	for n := range 140 {
		checkMac(t, mixed(n, n), "text")
	}
}

// The inner hash has 64 bytes more than the text, so near the bound it has
// more than MaxText.
func TestMacAtTheBounds(t *testing.T) {
	lengths := []int{0, 1, 55, 56, 63, 64, 65, api.MaxText - 65, api.MaxText - 64, api.MaxText - 63, api.MaxText - 1, api.MaxText}
	for _, k := range lengths {
		for _, n := range lengths {
			checkMac(t, mixed(k, 1), mixed(n, 2))
		}
	}
	for _, c := range [][2]int{
		{api.MaxText + 1, 0},
		{0, api.MaxText + 1},
		{api.MaxText + 1, api.MaxText},
		{api.MaxText, api.MaxText + 1},
		{api.MaxText + 1, api.MaxText + 1},
		{1 << 20, 1 << 20},
	} {
		got, e := prim.Mac(mixed(c[0], 1), mixed(c[1], 2))
		wantError(t, fmt.Sprintf("P3: Mac of %d and %d bytes", c[0], c[1]), got, e, api.ErrLong)
	}
}
