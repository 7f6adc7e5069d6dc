package term

import (
	"slices"

	"sealring/api"
)

// Positions returns the positions of t in preorder.
func Positions(t api.Term) [][]int {
	return positions(&t, nil, nil)
}

// positions appends to l the positions of the nodes of t, which itself stands
// at the position at.
func positions(t *api.Term, at []int, l [][]int) [][]int {
	l = append(l, slices.Clone(at))
	for i := range t.Kids {
		// The next kid may overwrite what is appended here: l has copies only.
		l = positions(&t.Kids[i], append(at, i), l)
	}
	return l
}

// At returns the subterm at the position p.
func At(t api.Term, p []int) (api.Term, api.Errno) {
	found := find(&t, p)
	if found == nil {
		return api.Term{}, api.ErrRange
	}
	return copyOf(found), api.OK
}

// Replace returns the term in which u stands at the position p.
func Replace(t api.Term, p []int, u api.Term) (api.Term, api.Errno) {
	if find(&t, p) == nil {
		return api.Term{}, api.ErrRange
	}
	replaced := copyOf(&t)
	*find(&replaced, p) = copyOf(&u)
	return replaced, api.OK
}

// find returns the node of t at the position p, or nil.
func find(t *api.Term, p []int) *api.Term {
	for _, i := range p {
		if i < 0 || i >= len(t.Kids) {
			return nil
		}
		t = &t.Kids[i]
	}
	return t
}
