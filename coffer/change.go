package coffer

import (
	"maps"
	"slices"
	"strings"

	"coffer/api"
)

// state: the keys with their values.
type state map[string]entry

// entry: what lies under a key.
type entry struct {
	value string
}

// change: a put or a delete.
type change interface {
	// plainText tells it as a record has it.
	plainText() string
}

type put struct {
	key   string
	value string
}

type removal struct {
	key string
}

func (p put) plainText() string {
	return "P" + p.pairText()
}

// pairText tells the key and the value as a snapshot has them.
func (p put) pairText() string {
	return u8(len(p.key)) + u8(len(p.value)) + p.key + p.value
}

func (r removal) plainText() string {
	return "D" + u8(len(r.key)) + r.key
}

// plainText tells changes as a record has them (P11).
func plainText(changes []change) string {
	var all strings.Builder
	for _, c := range changes {
		all.WriteString(c.plainText())
	}
	return all.String()
}

// apply makes changes, in their order.
func (s state) apply(changes []change) {
	for _, c := range changes {
		switch c := c.(type) {
		case put:
			s[c.key] = entry{value: c.value}
		case removal:
			delete(s, c.key)
		}
	}
}

// plainText tells the state as a snapshot has it (P13).
func (s state) plainText() string {
	var all strings.Builder
	for _, key := range slices.Sorted(maps.Keys(s)) {
		all.WriteString(put{key: key, value: s[key].value}.pairText())
	}
	return all.String()
}

func isKey(key string) bool { return key != "" && len(key) <= api.MaxKey }

func isValue(value string) bool { return len(value) <= api.MaxValue }

// changesOf takes a record's plain text apart.
func changesOf(plain string) []change {
	c := cutter{rest: plain}
	var changes []change
	for c.rest != "" {
		changes = append(changes, c.change())
	}
	require(len(changes) >= 1 && len(changes) <= api.MaxBatch)
	return changes
}

func (c *cutter) change() change {
	switch c.take(1) {
	case "P":
		return c.pair()
	case "D":
		return removal{key: c.key(c.number(1))}
	}
	panic(errTampered)
}

// pair cuts off a key and a value, behind the lengths of both.
func (c *cutter) pair() put {
	keySize := c.number(1)
	valueSize := c.number(1)
	key := c.key(keySize)
	value := c.take(valueSize)
	require(isValue(value))
	return put{key: key, value: value}
}

func (c *cutter) key(size int) string {
	key := c.take(size)
	require(isKey(key))
	return key
}
