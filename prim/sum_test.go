package prim_test

import (
	"crypto/sha256"
	"fmt"
	"strings"
	"testing"

	"coffer/api"
	"coffer/prim"
)

// wantSum is SHA-256 by the library, to hold Sum against.
func wantSum(x string) string {
	s := sha256.Sum256([]byte(x))
	return string(s[:])
}

func checkSum(t *testing.T, x string) {
	t.Helper()
	got, e := prim.Sum(x)
	wantText(t, fmt.Sprintf("P3: Sum of %d bytes", len(x)), got, e, wantSum(x))
}

func TestSumOfKnownTexts(t *testing.T) {
	for _, c := range []struct{ x, want string }{
		{"", "e3b0c442 98fc1c14 9afbf4c8 996fb924 27ae41e4 649b934c a495991b 7852b855"},
		{"abc", "ba7816bf 8f01cfea 414140de 5dae2223 b00361a3 96177a9c b410ff61 f20015ad"},
		{
			"abcdbcdecdefdefgefghfghighijhijkijkljklmklmnlmnomnopnopq",
			"248d6a61 d20638b8 e5c02693 0c3e6039 a33ce459 64ff2167 f6ecedd4 19db06c1",
		},
		{
			"abcdefghbcdefghicdefghijdefghijkefghijklfghijklmghijklmnhijklmnoijklmnopjklmnopqklmnopqrlmnopqrsmnopqrstnopqrstu",
			"cf5b16a7 78af8380 036ce59e 7b049237 0b249b11 e8f07a51 afac4503 7afee9d1",
		},
	} {
		got, e := prim.Sum(c.x)
		wantText(t, fmt.Sprintf("P3: Sum(%q)", c.x), got, e, fromHex(t, c.want))
	}
}

// All lengths up to some chunks: the padding ends in the text's last chunk, or
// needs one more.
func TestSumAtEveryLength(t *testing.T) {
	for n := range 4*64 + 2 {
		checkSum(t, mixed(n, n))
		checkSum(t, strings.Repeat("\x00", n))
		checkSum(t, strings.Repeat("\xff", n))
	}
}

func TestSumOfEveryByte(t *testing.T) {
	for b := range 256 {
		checkSum(t, string([]byte{byte(b)}))
	}
}

func TestSumAtTheBound(t *testing.T) {
	for n := api.MaxText - 130; n <= api.MaxText; n++ {
		checkSum(t, mixed(n, n))
	}
	for _, n := range []int{api.MaxText + 1, api.MaxText + 2, 2 * api.MaxText, 1 << 20} {
		got, e := prim.Sum(mixed(n, n))
		wantError(t, fmt.Sprintf("P3: Sum of %d bytes", n), got, e, api.ErrLong)
	}
}
