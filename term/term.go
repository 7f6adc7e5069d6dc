// Package term is layer 1: see shared/doc/01-term.md. It implements the terms
// of the system: variables, atoms, and applications of symbols.
package term

import (
	"sealring/api"
)

// Valid returns the error of a term, or OK.
func Valid(t api.Term) api.Errno {
	if e := nodesError(&t); e != api.OK {
		return e
	}
	if Size(t) > api.MaxNodes || Depth(t) > api.MaxDepth {
		return api.ErrTooLarge
	}
	return api.OK
}

// nodesError returns the first error of a node of t, in preorder.
func nodesError(t *api.Term) api.Errno {
	if e := nodeError(t); e != api.OK {
		return e
	}
	for i := range t.Kids {
		if e := nodesError(&t.Kids[i]); e != api.OK {
			return e
		}
	}
	return api.OK
}

// nodeError returns the error of the root of t alone.
func nodeError(t *api.Term) api.Errno {
	leaf := t.Kind == api.TermVar || t.Kind == api.TermAtom
	switch {
	case !leaf && t.Kind != api.TermApp:
		return api.ErrInvalid
	case t.Sort < api.SortAny || t.Sort > api.SortTag:
		return api.ErrInvalid
	case leaf && len(t.Kids) > 0:
		return api.ErrInvalid
	case !leaf && t.Sort != api.SortAny:
		return api.ErrInvalid
	case !isName(t.Name):
		return api.ErrSyntax
	case len(t.Kids) > api.MaxKids:
		return api.ErrTooLarge
	}
	return api.OK
}

// isName reports whether s is a name.
func isName(s string) bool {
	return s != "" && len(s) <= api.MaxName && nameLength(s) == len(s)
}

// nameLength returns how many bytes at the beginning of s could be a name,
// if names had no greatest length.
func nameLength(s string) int {
	for i := range len(s) {
		if !isLetter(s[i]) && (i == 0 || !isLaterByte(s[i])) {
			return i
		}
	}
	return len(s)
}

func isLetter(b byte) bool {
	return 'A' <= b && b <= 'Z' || 'a' <= b && b <= 'z'
}

// isLaterByte reports whether a name may have b, which is no letter, behind
// its first letter.
func isLaterByte(b byte) bool {
	return '0' <= b && b <= '9' || b == '_' || b == '#'
}

// Size returns the number of nodes.
func Size(t api.Term) int {
	return size(&t)
}

func size(t *api.Term) int {
	n := 1
	for i := range t.Kids {
		n += size(&t.Kids[i])
	}
	return n
}

// Depth returns the greatest number of nodes on a way from the root to a leaf.
func Depth(t api.Term) int {
	return depth(&t)
}

func depth(t *api.Term) int {
	n := 0
	for i := range t.Kids {
		n = max(n, depth(&t.Kids[i]))
	}
	return n + 1
}

// copyOf returns a term that is equal to t and shares no memory with it.
func copyOf(t *api.Term) api.Term {
	c := api.Term{Kind: t.Kind, Name: t.Name, Sort: t.Sort}
	if len(t.Kids) == 0 {
		return c
	}
	c.Kids = make([]api.Term, len(t.Kids))
	for i := range t.Kids {
		c.Kids[i] = copyOf(&t.Kids[i])
	}
	return c
}
