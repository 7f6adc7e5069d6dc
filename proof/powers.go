package proof

import (
	"slices"

	"sealring/api"
	"sealring/exponent"
)

// factorsOf returns the places of the factors of a product.
func (b *builder) factorsOf(l []api.Power) []int {
	var factors []int
	for _, p := range l {
		factors = append(factors, b.place(p.Term))
	}
	return factors
}

// placeFamilies finds the terms that have a base in common. A base comes before
// its powers in the order of terms.
func (b *builder) placeFamilies() {
	family := map[int]int{}
	for i := range b.terms {
		if !applies(&b.terms[i], exp) {
			continue
		}
		base := b.kids[i][0]
		n, found := family[base]
		if !found {
			n = len(b.families)
			family[base] = n
			b.families = append(b.families, []int{base})
		}
		b.families[n] = append(b.families[n], i)
	}
}

// multiply follows the rules of products and powers, and reports whether there
// is anything new.
func (b *builder) multiply() bool {
	before := len(b.steps)
	for _, i := range slices.Concat(b.exponents, b.factors) {
		if b.has(i) {
			continue
		}
		if args, coeffs, ok := b.generate(productOf(b.terms[i])); ok {
			b.add(i, api.Deduction{Rule: api.ByProduct, Coeffs: coeffs}, args...)
		}
	}
	for _, family := range b.families {
		for _, i := range family {
			if !b.has(i) {
				b.raise(i, family)
			}
		}
	}
	return len(b.steps) > before
}

// raise adds a step that leads to a term from another one of its family, if
// there is one.
func (b *builder) raise(i int, family []int) {
	for _, from := range family {
		if !b.has(from) {
			continue
		}
		args, coeffs, ok := b.generate(quotient(&b.terms[i], &b.terms[from]))
		if ok {
			b.add(i, api.Deduction{Rule: api.ByPower, Coeffs: coeffs}, append([]int{from}, args...)...)
			return
		}
	}
}

// generate returns terms that have steps, and powers to which they have a
// product, if there are some.
func (b *builder) generate(m []api.Power) (args, coeffs []int, ok bool) {
	places := b.generators(m)
	products := make([][]api.Power, len(places))
	for n, i := range places {
		products[n] = productOf(b.terms[i])
	}
	c, e := exponent.Member(products, m)
	if e != api.OK {
		return nil, nil, false
	}
	for n, i := range places {
		if c[n] != 0 {
			args = append(args, i)
			coeffs = append(coeffs, c[n])
		}
	}
	return args, coeffs, true
}

// generators returns the terms with steps that may generate a product: few
// enough for layer 6, as a universe has few exponents and factors. Factors come
// first: their rows are pivots of the elimination then, so that numbers stay
// small.
func (b *builder) generators(m []api.Power) []int {
	candidates := distinct(append(b.factorsOf(m), b.factors...))
	var l []int
	for _, i := range append(candidates, b.exponents...) {
		if b.has(i) {
			l = append(l, i)
		}
	}
	return l
}
