package order_test

import (
	"strings"
	"testing"

	"sealring/api"
	"sealring/order"
)

// P4.1: which lists are precedences.
func TestPrecedence(t *testing.T) {
	for what, l := range map[string][]string{
		"nil":                nil,
		"empty":              {},
		"one name":           {"a"},
		"letters":            letters,
		"other bytes":        {"a_", "a#", "a0", "Z_9#"},
		"upper case":         {"a", "A", "aA", "Aa"},
		"beginnings":         {"abc", "ab", "a"},
		"24 bytes":           {strings.Repeat("x", 24), strings.Repeat("x", 23) + "y"},
		"40 names":           names(40),
		"names of the world": {"e#1", "pair", "enc"},
	} {
		if e := order.Precedence(l); e != api.OK {
			t.Errorf("%s: %v", what, e)
		}
	}
	for what, c := range badLists() {
		if e := order.Precedence(c.l); e != c.want {
			t.Errorf("%s: %v, not %v", what, e, c.want)
		}
	}
}
