package term

import (
	"cmp"
	"slices"
	"strings"

	"sealring/api"
)

// Compare returns -1, 0 or 1, if a comes before b in the order of terms, is
// equal to it, or comes behind it.
func Compare(a, b api.Term) int {
	c, _, _ := compare(&a, &b)
	return c
}

// compare also returns the sizes of both terms: if every level counted the
// nodes below it anew, deep terms would take quadratic time.
func compare(a, b *api.Term) (order, sizeA, sizeB int) {
	order = compareRoots(a, b)
	if order != 0 {
		sizeA, sizeB = size(a), size(b)
	} else {
		sizeA, sizeB = 1, 1
		for i := range a.Kids {
			c, m, n := compare(&a.Kids[i], &b.Kids[i])
			order = cmp.Or(order, c)
			sizeA += m
			sizeB += n
		}
	}
	return cmp.Or(cmp.Compare(sizeA, sizeB), order), sizeA, sizeB
}

// compareRoots compares what decides between terms of the same size before
// their kids do.
func compareRoots(a, b *api.Term) int {
	return cmp.Or(
		cmp.Compare(a.Kind, b.Kind),
		strings.Compare(a.Name, b.Name),
		cmp.Compare(a.Sort, b.Sort),
		cmp.Compare(len(a.Kids), len(b.Kids)),
	)
}

// Vars returns the variables of t, each once, in the order of terms.
func Vars(t api.Term) []api.Term {
	return setOf(ofKind(api.TermVar, nodes(&t, nil)))
}

// Atoms returns the atoms of t, each once, in the order of terms.
func Atoms(t api.Term) []api.Term {
	return setOf(ofKind(api.TermAtom, nodes(&t, nil)))
}

// Subterms returns the subterms of all terms of l, each once, in the order of
// terms.
func Subterms(l []api.Term) []api.Term {
	var all []node
	for i := range l {
		all = nodes(&l[i], all)
	}
	return setOf(all)
}

// A node is a subterm with its size, which sorting needs again and again.
type node struct {
	term *api.Term
	size int
}

// nodes appends the subterms of t to l, in preorder.
func nodes(t *api.Term, l []node) []node {
	at := len(l)
	l = append(l, node{term: t})
	for i := range t.Kids {
		l = nodes(&t.Kids[i], l)
	}
	l[at].size = len(l) - at
	return l
}

// ofKind keeps the subterms of a kind.
func ofKind(kind int, l []node) []node {
	return slices.DeleteFunc(l, func(n node) bool { return n.term.Kind != kind })
}

// setOf returns copies of the subterms, each once, in the order of terms.
func setOf(l []node) []api.Term {
	slices.SortFunc(l, compareNodes)
	l = slices.CompactFunc(l, func(a, b node) bool { return compareNodes(a, b) == 0 })
	set := make([]api.Term, len(l))
	for i, n := range l {
		set[i] = copyOf(n.term)
	}
	return set
}

func compareNodes(a, b node) int {
	if a.size != b.size {
		return cmp.Compare(a.size, b.size)
	}
	c, _, _ := compare(a.term, b.term)
	return c
}
