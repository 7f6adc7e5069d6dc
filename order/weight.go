package order

import (
	"cmp"

	"sealring/api"
)

// maxWeight is the greatest weight of a name.
const maxWeight = 1000

// Admissible returns the error of weights, or OK.
func Admissible(l []string, w []int) api.Errno {
	if e := Precedence(l); e != api.OK {
		return e
	}
	if len(w) != len(l) {
		return api.ErrArity
	}
	for i, weight := range w {
		if weight < 0 || weight > maxWeight || weight == 0 && i < len(w)-1 {
			return api.ErrRange
		}
	}
	return api.OK
}

// Kbo compares two terms in the weighted order.
func Kbo(l []string, w []int, a, b api.Term) (int, api.Errno) {
	if e := Admissible(l, w); e != api.OK {
		return 0, e
	}
	o := weighted{precedenceOf(l), w}
	if e := o.strength.termsError(&a, &b); e != api.OK {
		return 0, e
	}
	if !o.usedRightly(&a) || !o.usedRightly(&b) {
		return 0, api.ErrArity
	}
	return o.compare(&a, &b), api.OK
}

// A weighted order has the weights of the names at each place.
type weighted struct {
	strength precedence
	weights  []int
}

// weight returns the weight of the root of t alone.
func (o weighted) weight(t *api.Term) int {
	if t.Kind == api.TermVar {
		return 1
	}
	return o.weights[o.strength[t.Name]]
}

// usedRightly reports whether in t only applications with one kid have the
// weight 0.
func (o weighted) usedRightly(t *api.Term) bool {
	if o.weight(t) == 0 && len(t.Kids) != 1 {
		return false
	}
	for i := range t.Kids {
		if !o.usedRightly(&t.Kids[i]) {
			return false
		}
	}
	return true
}

// compare compares two terms.
func (o weighted) compare(a, b *api.Term) int {
	more := surplus{occurrences: map[variable]int{}}
	o.count(a, 1, &more)
	o.count(b, -1, &more)
	order := cmp.Compare(more.weight, 0)
	if order == equal {
		order = o.compareRoots(a, b)
	}
	for _, n := range more.occurrences {
		if order == greater && n < 0 || order == less && n > 0 {
			return different
		}
	}
	return order
}

// A surplus is what one of two terms has more than the other one.
type surplus struct {
	weight      int
	occurrences map[variable]int
}

type variable struct {
	name string
	sort int
}

// count adds the weight of t and the occurrences of its variables, each n
// times.
func (o weighted) count(t *api.Term, n int, more *surplus) {
	more.weight += n * o.weight(t)
	if t.Kind == api.TermVar {
		more.occurrences[variable{t.Name, t.Sort}] += n
	}
	for i := range t.Kids {
		o.count(&t.Kids[i], n, more)
	}
}

// compareRoots compares terms with the same weight, as if each variable
// occurred equally often in both.
func (o weighted) compareRoots(a, b *api.Term) int {
	switch {
	case a.Kind == api.TermVar && b.Kind == api.TermVar:
		if a.Name == b.Name && a.Sort == b.Sort {
			return equal
		}
		return different
	case a.Kind == api.TermVar:
		return less
	case b.Kind == api.TermVar:
		// If it occurs in a, then what else is in a has the weight 0: nothing
		// is left of the weight 1.
		return greater
	}
	order := o.strength.compareSymbols(a, b)
	for i := 0; order == equal && i < len(a.Kids); i++ {
		order = o.compare(&a.Kids[i], &b.Kids[i])
	}
	return order
}
