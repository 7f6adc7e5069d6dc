package order_test

import (
	"slices"

	"sealring/api"
	"sealring/term"
)

// A greater function says whether a term is greater than another one.
type greaterThan func(s, t api.Term) bool

// result is what both orders return for two terms.
func (greater greaterThan) result(s, t api.Term) int {
	switch {
	case greater(s, t):
		return 1
	case greater(t, s):
		return -1
	case same(s, t):
		return 0
	}
	return 2
}

// firstDifferent returns the first two kids at the same place that differ.
func firstDifferent(s, t api.Term) (a, b api.Term, found bool) {
	for i := range s.Kids {
		if !same(s.Kids[i], t.Kids[i]) {
			return s.Kids[i], t.Kids[i], true
		}
	}
	return a, b, false
}

// stronger reports whether the symbol of s is stronger than that of t.
func stronger(l []string, s, t api.Term) bool {
	m, n := slices.Index(l, s.Name), slices.Index(l, t.Name)
	switch {
	case m != n:
		return m > n
	case s.Kind != t.Kind:
		return s.Kind > t.Kind
	case s.Sort != t.Sort:
		return s.Sort > t.Sort
	}
	return len(s.Kids) > len(t.Kids)
}

func sameSymbol(s, t api.Term) bool {
	return s.Kind == t.Kind && s.Name == t.Name && s.Sort == t.Sort && len(s.Kids) == len(t.Kids)
}

// refPath is the path order by the definition.
func refPath(l []string) greaterThan {
	var greater greaterThan
	greater = func(s, t api.Term) bool {
		if s.Kind == api.TermVar {
			return false
		}
		if slices.ContainsFunc(s.Kids, func(kid api.Term) bool { return same(kid, t) || greater(kid, t) }) {
			return true
		}
		if t.Kind == api.TermVar || slices.ContainsFunc(t.Kids, func(kid api.Term) bool { return !greater(s, kid) }) {
			return false
		}
		if stronger(l, s, t) {
			return true
		}
		if !sameSymbol(s, t) {
			return false
		}
		a, b, found := firstDifferent(s, t)
		return found && greater(a, b)
	}
	return greater
}

// occurrences returns how often x is a part of t.
func occurrences(x, t api.Term) int {
	n := 0
	if same(x, t) {
		n = 1
	}
	for _, kid := range t.Kids {
		n += occurrences(x, kid)
	}
	return n
}

// refWeight is the weight of a term by the definition.
func refWeight(l []string, w []int, t api.Term) int {
	n := 1
	if t.Kind != api.TermVar {
		n = w[slices.Index(l, t.Name)]
	}
	for _, kid := range t.Kids {
		n += refWeight(l, w, kid)
	}
	return n
}

// consistsOf reports whether t consists of x and applications with the weight
// 0.
func consistsOf(l []string, w []int, t, x api.Term) bool {
	if same(t, x) {
		return true
	}
	return t.Kind == api.TermApp && w[slices.Index(l, t.Name)] == 0 && len(t.Kids) == 1 && consistsOf(l, w, t.Kids[0], x)
}

// refWeighted is the weighted order by the definition.
func refWeighted(l []string, w []int) greaterThan {
	var greater greaterThan
	greater = func(s, t api.Term) bool {
		if s.Kind == api.TermVar {
			return false
		}
		for _, x := range term.Vars(app("f", s, t)) {
			if occurrences(x, s) < occurrences(x, t) {
				return false
			}
		}
		m, n := refWeight(l, w, s), refWeight(l, w, t)
		if m != n {
			return m > n
		}
		if t.Kind == api.TermVar {
			return consistsOf(l, w, s, t)
		}
		if stronger(l, s, t) {
			return true
		}
		if !sameSymbol(s, t) {
			return false
		}
		a, b, found := firstDifferent(s, t)
		return found && greater(a, b)
	}
	return greater
}
