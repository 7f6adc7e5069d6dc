package proof

import (
	"slices"

	"sealring/api"
	"sealring/knowledge"
	"sealring/term"
)

// Build returns a derivation of a term that is right and local.
func Build(k []api.Term, t api.Term) ([]api.Deduction, api.Errno) {
	universe, e := knowledge.Universe(k, t)
	if e != api.OK {
		return nil, e
	}
	b := newBuilder(universe)
	b.begin(k)
	goal := b.place(t)
	if !b.reach(goal) {
		return nil, api.ErrNotFound
	}
	return Trim(b.steps[:b.step[goal]+1]), api.OK
}

// A builder adds steps that lead to terms of a universe, one for each term that
// is found to be known. The terms are in order, so that each one has a place.
type builder struct {
	terms     []api.Term
	kids      [][]int // the places of the kids of each term
	sums      []int   // the places of the applications of xor
	exponents []int   // those of the applications of mul and inv
	factors   []int   // those of the factors of these
	families  [][]int // those of the powers with one base, which comes first
	steps     []api.Deduction
	step      []int // the index of the step of each term, or none
}

// none stands for no index.
const none = -1

func newBuilder(universe []api.Term) *builder {
	b := &builder{terms: universe, kids: make([][]int, len(universe)), step: make([]int, len(universe))}
	for i := range b.terms {
		t := &b.terms[i]
		b.step[i] = none
		for j := range t.Kids {
			b.kids[i] = append(b.kids[i], b.place(t.Kids[j]))
		}
		switch {
		case applies(t, sum):
			b.sums = append(b.sums, i)
		case applies(t, mul) || applies(t, inv):
			b.exponents = append(b.exponents, i)
			b.factors = append(b.factors, b.factorsOf(productOf(*t))...)
		}
	}
	b.factors = distinct(b.factors)
	b.placeFamilies()
	return b
}

// place returns the place of a term.
func (b *builder) place(t api.Term) int {
	i, _ := slices.BinarySearchFunc(b.terms, t, term.Compare)
	return i
}

// distinct returns the elements of a list, in order and each once. It uses the
// memory of l.
func distinct(l []int) []int {
	slices.Sort(l)
	return slices.Compact(l)
}

// has reports whether there is a step that leads to a term.
func (b *builder) has(i int) bool {
	return b.step[i] != none
}

func (b *builder) hasAll(l []int) bool {
	return !slices.ContainsFunc(l, func(i int) bool { return !b.has(i) })
}

// begin adds the steps that need no others.
func (b *builder) begin(k []api.Term) {
	for i := range b.terms {
		if knowledge.Public(b.terms[i]) {
			b.add(i, api.Deduction{Rule: api.ByPublic})
		}
	}
	for n := range k {
		if i := b.place(k[n]); !b.has(i) {
			b.add(i, api.Deduction{Rule: api.ByGiven, N: n})
		}
	}
}

// add adds a step that leads to a term. Its Args are the steps of other terms.
func (b *builder) add(i int, d api.Deduction, args ...int) {
	for _, a := range args {
		d.Args = append(d.Args, b.step[a])
	}
	d.Term = b.terms[i]
	b.step[i] = len(b.steps)
	b.steps = append(b.steps, d)
}

// reach adds steps until there is one that leads to a term, and reports whether
// it is found. Those that cost more are looked for only if there are no others.
func (b *builder) reach(goal int) bool {
	for !b.has(goal) {
		if !b.openOrCompose() && !b.addSums() && !b.multiply() {
			return false
		}
	}
	return true
}

// openOrCompose follows the rules of free terms, and reports whether there is
// anything new.
func (b *builder) openOrCompose() bool {
	before := len(b.steps)
	for i := range b.terms {
		if rule := composing(&b.terms[i]); rule != 0 {
			b.learn(i, rule, b.kids[i]...)
		}
		if b.has(i) {
			b.open(i)
		}
	}
	return len(b.steps) > before
}

// learn adds a step that leads to a term, if it has none, from terms that all
// have steps.
func (b *builder) learn(i, rule int, args ...int) {
	if !b.has(i) && b.hasAll(args) {
		b.add(i, api.Deduction{Rule: rule}, args...)
	}
}

// composing returns the rule that composes a term of its kids, or 0.
func composing(t *api.Term) int {
	if t.Kind != api.TermApp {
		return 0
	}
	switch t.Name {
	case pair:
		return api.ByPair
	case enc:
		return api.ByEnc
	case aenc:
		return api.ByAenc
	case pk:
		return api.ByPk
	case sign:
		return api.BySign
	case hash:
		return api.ByHash
	}
	return 0
}

// open adds steps that lead from a term to its kids.
func (b *builder) open(i int) {
	kids := b.kids[i]
	switch composing(&b.terms[i]) {
	case api.ByPair:
		b.learn(kids[0], api.ByFirst, i)
		b.learn(kids[1], api.BySecond, i)
	case api.ByEnc:
		b.learn(kids[0], api.ByDec, i, kids[1])
	case api.ByAenc:
		if applies(&b.terms[kids[1]], pk) {
			b.learn(kids[0], api.ByAdec, i, b.kids[kids[1]][0])
		}
	case api.BySign:
		b.learn(kids[0], api.ByRead, i)
	}
}
