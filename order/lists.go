package order

import (
	"slices"
)

// Lex compares two lists of numbers lexicographically.
func Lex(a, b []int) int {
	return slices.Compare(a, b)
}

// Multiset compares two lists of numbers as multisets.
func Multiset(a, b []int) int {
	// Of two multisets, that one is greater which has more of the greatest
	// number of which both do not have equally many: all that is left of the
	// other one is less than this number. If both are written with the greatest
	// numbers first, they differ for the first time there.
	return Lex(descending(a), descending(b))
}

// descending returns the numbers of l, the greatest ones first.
func descending(l []int) []int {
	l = slices.Sorted(slices.Values(l))
	slices.Reverse(l)
	return l
}
