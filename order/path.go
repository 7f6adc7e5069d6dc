package order

import (
	"slices"

	"sealring/api"
	"sealring/term"
)

// Lpo compares two terms in the path order.
func Lpo(l []string, a, b api.Term) (int, api.Errno) {
	if e := Precedence(l); e != api.OK {
		return 0, e
	}
	p := precedenceOf(l)
	if e := p.termsError(&a, &b); e != api.OK {
		return 0, e
	}
	o := newPathOrder(p)
	return o.compare(o.number(&a), o.number(&b)), api.OK
}

// Decreasing returns the index of the first rule whose left side is not
// greater than the right one, and false, or -1 and true.
func Decreasing(l []string, rules []api.Rule) (int, bool) {
	for i := range rules {
		if order, e := Lpo(l, rules[i].Left, rules[i].Right); order != greater || e != api.OK {
			return i, false
		}
	}
	return -1, true
}

// Sort returns the different terms of a list of terms without variables, the
// least one first.
func Sort(l []string, t []api.Term) ([]api.Term, api.Errno) {
	if e := Precedence(l); e != api.OK {
		return nil, e
	}
	if len(t) > api.MaxTerms {
		return nil, api.ErrTooLarge
	}
	p := precedenceOf(l)
	for i := range t {
		if e := p.groundError(&t[i]); e != api.OK {
			return nil, e
		}
	}
	return newPathOrder(p).sorted(t), api.OK
}

// groundError returns the error of a term that is to be sorted.
func (p precedence) groundError(t *api.Term) api.Errno {
	if e := term.Valid(*t); e != api.OK {
		return e
	}
	if len(term.Vars(*t)) > 0 {
		return api.ErrUnbound
	}
	if !p.hasNames(t) {
		return api.ErrNotFound
	}
	return api.OK
}

// A pathOrder gives numbers to terms, so that equal ones have the same number,
// and keeps what is known of two of them.
type pathOrder struct {
	strength precedence
	numbers  map[shape]int
	nodes    []node // by number
	known    map[[2]int]int
}

// A shape is what makes terms equal: the root, and the numbers of the kids.
type shape struct {
	kind, sort, count int
	name              string
	kids              [api.MaxKids]int
}

// A node is a term with the numbers of its kids.
type node struct {
	term *api.Term
	kids []int
}

func newPathOrder(p precedence) *pathOrder {
	return &pathOrder{strength: p, numbers: map[shape]int{}, known: map[[2]int]int{}}
}

// number returns the number of a valid term.
func (o *pathOrder) number(t *api.Term) int {
	s := shape{kind: t.Kind, sort: t.Sort, count: len(t.Kids), name: t.Name}
	for i := range t.Kids {
		s.kids[i] = o.number(&t.Kids[i])
	}
	n, found := o.numbers[s]
	if !found {
		n = len(o.nodes)
		o.numbers[s] = n
		o.nodes = append(o.nodes, node{t, slices.Clone(s.kids[:s.count])})
	}
	return n
}

// compare compares the terms with two numbers.
func (o *pathOrder) compare(a, b int) int {
	switch {
	case a == b:
		return equal
	case a > b:
		return opposite(o.compare(b, a))
	}
	pair := [2]int{a, b}
	order, found := o.known[pair]
	if !found {
		order = o.compareDifferent(a, b)
		o.known[pair] = order
	}
	return order
}

// compareDifferent compares different terms.
func (o *pathOrder) compareDifferent(a, b int) int {
	switch o.compareRoots(o.nodes[a], o.nodes[b]) {
	case greater:
		return o.above(a, o.nodes[b].kids)
	case less:
		return opposite(o.above(b, o.nodes[a].kids))
	}
	switch {
	case o.reaches(o.nodes[a].kids, b):
		return greater
	case o.reaches(o.nodes[b].kids, a):
		return less
	}
	return different
}

// compareRoots compares the symbols of two terms, or, if both are the same,
// the first kids that differ.
func (o *pathOrder) compareRoots(a, b node) int {
	if a.term.Kind == api.TermVar || b.term.Kind == api.TermVar {
		return different
	}
	order := o.strength.compareSymbols(a.term, b.term)
	for i := 0; order == equal && i < len(a.kids); i++ {
		order = o.compare(a.kids[i], b.kids[i])
	}
	return order
}

// above compares a term that has the greater root with the one whose kids are
// given. The order is transitive, and terms are greater than their kids; so
// the first term is greater than the second one if it is greater than all
// kids, and less only if one of them is equal to it or greater.
func (o *pathOrder) above(a int, kids []int) int {
	result := greater
	for _, kid := range kids {
		switch o.compare(a, kid) {
		case equal, less:
			return less
		case different:
			result = different
		}
	}
	return result
}

// reaches reports whether a term of kids is equal to that with a number, or
// greater.
func (o *pathOrder) reaches(kids []int, than int) bool {
	return slices.ContainsFunc(kids, func(kid int) bool {
		order := o.compare(kid, than)
		return order == equal || order == greater
	})
}

// sorted returns the different terms of a list, the least one first.
func (o *pathOrder) sorted(t []api.Term) []api.Term {
	var numbers []int
	for i := range t {
		numbers = append(numbers, o.number(&t[i]))
	}
	slices.SortFunc(numbers, o.compare)
	var l []api.Term
	for _, n := range slices.Compact(numbers) {
		l = append(l, copyOf(o.nodes[n].term))
	}
	return l
}

// copyOf returns a term that is equal to t and shares no memory with it.
func copyOf(t *api.Term) api.Term {
	// There always is a position of the term itself.
	c, _ := term.At(*t, nil)
	return c
}
