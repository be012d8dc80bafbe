package prim_test

import (
	"crypto/hkdf"
	"crypto/sha256"
	"fmt"
	"math"
	"testing"

	"coffer/api"
	"coffer/prim"
)

func checkDerive(t *testing.T, secret string, salt string, info string, n int) {
	t.Helper()
	want, err := hkdf.Key(sha256.New, []byte(secret), []byte(salt), info, n)
	if err != nil {
		t.Fatal(err)
	}
	got, e := prim.Derive(secret, salt, info, n)
	call := fmt.Sprintf("P4: Derive of %d, %d and %d bytes, %d", len(secret), len(salt), len(info), n)
	wantText(t, call, got, e, string(want))
}

// The three texts of RFC 5869 with SHA-256.
func TestDeriveOfKnownTexts(t *testing.T) {
	for i, c := range []struct {
		secret, salt, info string
		n                  int
		want               string
	}{
		{
			"0b0b0b0b0b0b0b0b0b0b0b0b0b0b0b0b0b0b0b0b0b0b", "000102030405060708090a0b0c", "f0f1f2f3f4f5f6f7f8f9", 42,
			"3cb25f25faacd57a90434f64d0362f2a2d2d0a90cf1a5a4c5db02d56ecc4c5bf34007208d5b887185865",
		},
		{
			counting(0x00, 80), counting(0x60, 80), counting(0xb0, 80), 82,
			"b11e398dc80327a1c8e7f78c596a49344f012eda2d4efad8a050cc4c19afa97c59045a99cac7827271cb41c65e590e09" +
				"da3275600c2f09b8367793a9aca3db71cc30c58179ec3e87c14c01d5c1f3434f1d87",
		},
		{
			"0b0b0b0b0b0b0b0b0b0b0b0b0b0b0b0b0b0b0b0b0b0b", "", "", 42,
			"8da4e775a563c18f715f802a063c5a31b8a11f5c5ee1879ec3454e5f3c738d2d9d201395faa4b61a96c8",
		},
	} {
		got, e := prim.Derive(fromHex(t, c.secret), fromHex(t, c.salt), fromHex(t, c.info), c.n)
		wantText(t, fmt.Sprintf("P4: Derive of RFC 5869's text %d", i+1), got, e, fromHex(t, c.want))
	}
}

// counting tells, in hexadecimal digits, n bytes that go up one by one.
func counting(from int, n int) string {
	digits := ""
	for i := range n {
		digits += fmt.Sprintf("%02x", from+i)
	}
	return digits
}

func TestDeriveAtEverySize(t *testing.T) {
	for n := range api.MaxDerive + 1 {
		checkDerive(t, mixed(32, 1), "", "cipher\x00", n)
		checkDerive(t, mixed(40, 2), mixed(70, 3), "", n)
	}
}

func TestDeriveOfNoBytes(t *testing.T) {
	got, e := prim.Derive("", "", "", 0)
	wantText(t, "P4: Derive of nothing, 0", got, e, "")
}

func TestDeriveAtTheBounds(t *testing.T) {
	for _, c := range [][3]int{
		{api.MaxText, 0, 0},
		{0, api.MaxText, 0},
		{0, 0, api.MaxText - 33},
		{api.MaxText, api.MaxText, api.MaxText - 33},
	} {
		checkDerive(t, mixed(c[0], 1), mixed(c[1], 2), mixed(c[2], 3), api.MaxDerive)
	}
}

func TestDeriveOfWrongSizes(t *testing.T) {
	for _, n := range []int{-1, -255, -256, api.MaxDerive + 1, 1 << 32, 1<<32 + 1, math.MaxInt, math.MinInt} {
		got, e := prim.Derive("secret", "salt", "info", n)
		wantError(t, fmt.Sprintf("P4: Derive of %d", n), got, e, api.ErrSize)
	}
}

// A text that is too long is told ahead of a wrong size.
func TestDeriveOfLongTexts(t *testing.T) {
	for _, c := range [][3]int{
		{api.MaxText + 1, 0, 0},
		{0, api.MaxText + 1, 0},
		{0, 0, api.MaxText - 32},
		{0, 0, api.MaxText},
		{1 << 20, 1 << 20, 1 << 20},
	} {
		for _, n := range []int{0, 1, api.MaxDerive, api.MaxDerive + 1, -1, math.MaxInt, math.MinInt} {
			got, e := prim.Derive(mixed(c[0], 1), mixed(c[1], 2), mixed(c[2], 3), n)
			wantError(t, fmt.Sprintf("P4: Derive of %v bytes, %d", c, n), got, e, api.ErrLong)
		}
	}
}
