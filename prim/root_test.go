package prim_test

import (
	"fmt"
	"testing"

	"coffer/api"
	"coffer/prim"
)

// wantRoot goes down from the top, not up from the parts as the document does:
// the left side is the greatest whole tree that leaves something to the right.
func wantRoot(parts []string) string {
	switch len(parts) {
	case 0:
		return wantSum("")
	case 1:
		return wantSum("\x00" + parts[0])
	}
	left := 1
	for 2*left < len(parts) {
		left *= 2
	}
	return wantSum("\x01" + wantRoot(parts[:left]) + wantRoot(parts[left:]))
}

func checkRoot(t *testing.T, parts []string) {
	t.Helper()
	got, e := prim.Root(parts)
	wantText(t, fmt.Sprintf("P5: Root of %d parts", len(parts)), got, e, wantRoot(parts))
}

func manyParts(count int, size int) []string {
	parts := make([]string, count)
	for i := range parts {
		parts[i] = mixed(size, i)
	}
	return parts
}

func TestRootRowByRow(t *testing.T) {
	a, b, c, d, e := wantSum("\x00a"), wantSum("\x00b"), wantSum("\x00"), wantSum("\x00d"), wantSum("\x00e")
	node := func(left, right string) string { return wantSum("\x01" + left + right) }
	for _, x := range []struct {
		parts []string
		want  string
	}{
		{nil, wantSum("")},
		{[]string{}, wantSum("")},
		{[]string{""}, c},
		{[]string{"a"}, a},
		{[]string{"a", "b"}, node(a, b)},
		{[]string{"b", "a"}, node(b, a)},
		{[]string{"a", "b", ""}, node(node(a, b), c)},
		{[]string{"a", "b", "", "d"}, node(node(a, b), node(c, d))},
		{[]string{"a", "b", "", "d", "e"}, node(node(node(a, b), node(c, d)), e)},
		{[]string{"a", "b", "", "d", "e", "a"}, node(node(node(a, b), node(c, d)), node(e, a))},
		{[]string{"a", "b", "", "d", "e", "a", "b"}, node(node(node(a, b), node(c, d)), node(node(e, a), b))},
	} {
		got, e := prim.Root(x.parts)
		wantText(t, fmt.Sprintf("P5: Root(%q)", x.parts), got, e, x.want)
	}
}

func TestRootAtEveryNumberOfParts(t *testing.T) {
	for n := range api.MaxParts + 1 {
		checkRoot(t, manyParts(n, api.PartSize))
		checkRoot(t, make([]string, n))
	}
}

func TestRootAtTheBounds(t *testing.T) {
	checkRoot(t, manyParts(1, api.MaxText-1))
	checkRoot(t, manyParts(api.MaxParts, api.MaxText-1))
}

func TestRootOfTooMuch(t *testing.T) {
	for _, parts := range [][]string{
		make([]string, api.MaxParts+1),
		make([]string, 100000),
		manyParts(1, api.MaxText),
		manyParts(1, 1<<20),
		{"a", mixed(api.MaxText, 1)},
		{mixed(api.MaxText, 1), "a"},
		append(manyParts(api.MaxParts-1, 1), mixed(api.MaxText, 1)),
		manyParts(api.MaxParts+1, api.MaxText),
	} {
		got, e := prim.Root(parts)
		wantError(t, fmt.Sprintf("P5: Root of %d parts", len(parts)), got, e, api.ErrLong)
	}
}

// A node's inside handed in as one part is another tree.
func TestRootTellsPartsFromNodes(t *testing.T) {
	two, _ := prim.Root([]string{"a", "b"})
	one, _ := prim.Root([]string{wantSum("\x00a") + wantSum("\x00b")})
	if one == two {
		t.Errorf("P5: a part passes for a node: %x", one)
	}
}
