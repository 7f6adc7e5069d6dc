package knowledge

import (
	"slices"

	"sealring/api"
	"sealring/exponent"
)

// multiply follows the rules 4 and 5, and reports whether anything is new.
func (c *closure) multiply() bool {
	g := c.generators()
	found := false
	for _, i := range slices.Concat(c.exponents, c.factors) {
		if !c.known[i] && g.generate(c.products[i]) {
			c.known[i] = true
			found = true
		}
	}
	for _, family := range c.families {
		for _, i := range family {
			if !c.known[i] && c.isPower(i, family, g) {
				c.known[i] = true
				found = true
			}
		}
	}
	return found
}

// isPower reports whether a term has an exponent that is known to lead to it
// from a known term of its family.
func (c *closure) isPower(i int, family []int, g *generators) bool {
	for _, k := range family {
		if c.known[k] && g.generate(quotient(c.power(i), c.power(k))) {
			return true
		}
	}
	return false
}

func quotient(a, b vector) vector {
	for column := range a {
		a[column] -= b[column]
	}
	return a
}

// generators are the products of the known exponents. Factors that are known
// themselves generate all of their powers, so that only the others count.
type generators struct {
	universe *universe
	products [][]api.Power
	free     [maxFactors]bool // the columns of known factors
	answers  map[vector]bool  // whether they generate what was asked for
}

// generators returns the generators of what is known.
func (c *closure) generators() *generators {
	g := &generators{universe: c.universe, answers: map[vector]bool{}}
	for column, i := range c.factors {
		g.free[column] = c.known[i]
	}
	for _, i := range c.exponents {
		if v := g.reduced(c.products[i]); c.known[i] && v != (vector{}) {
			g.products = append(g.products, c.powersOf(v))
		}
	}
	return g
}

// reduced returns a product without the powers of known factors.
func (g *generators) reduced(v vector) vector {
	for column := range v {
		if g.free[column] {
			v[column] = 0
		}
	}
	return v
}

// generate reports whether the known exponents generate a product.
func (g *generators) generate(v vector) bool {
	v = g.reduced(v)
	if len(g.products) == 0 || v == (vector{}) {
		return v == vector{}
	}
	answer, found := g.answers[v]
	if !found {
		// The numbers of the elimination stay small: there are few generators.
		_, e := exponent.Member(g.products, g.universe.powersOf(v))
		answer = e == api.OK
		g.answers[v] = answer
	}
	return answer
}
