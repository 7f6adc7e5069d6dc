package knowledge

import (
	"math/bits"

	"sealring/api"
)

// A places is a set of places of a universe. As a sum, it has the terms there
// as its summands.
type places [(api.MaxTerms + 63) / 64]uint64

func (p *places) has(i int) bool {
	return p[i/64]>>(i%64)&1 == 1
}

func (p *places) set(i int) {
	p[i/64] |= 1 << (i % 64)
}

// add adds a sum: summands of both are left out.
func (p *places) add(q places) {
	for w := range p {
		p[w] ^= q[w]
	}
}

// first returns the first place, if there is one.
func (p *places) first() (int, bool) {
	for w := range p {
		if p[w] != 0 {
			return 64*w + bits.TrailingZeros64(p[w]), true
		}
	}
	return 0, false
}

// A span has sums that add up to all others of it. Each of them has a pivot: a
// place that comes first in it, and that later ones do not have.
type span struct {
	sums   []places
	pivots []int
}

// reduced returns a sum without the pivots. Nothing is left of it exactly if it
// is in the span.
func (s *span) reduced(p places) places {
	for k, pivot := range s.pivots {
		if p.has(pivot) {
			p.add(s.sums[k])
		}
	}
	return p
}

func (s *span) include(p places) {
	p = s.reduced(p)
	if pivot, found := p.first(); found {
		s.sums = append(s.sums, p)
		s.pivots = append(s.pivots, pivot)
	}
}

func (s *span) contains(p places) bool {
	return s.reduced(p) == places{}
}

// addSums follows rule 3, and reports whether anything is new. Summands that are
// known themselves can always be added once more, so that only the others count.
// There is one elimination for all terms: xor.Span would begin anew with each.
func (c *closure) addSums() bool {
	known := &span{}
	var asked []int
	for _, i := range c.sums {
		if !c.known[i] {
			asked = append(asked, i)
			continue
		}
		known.include(c.unknownPart(i))
		asked = append(asked, c.summands[i]...)
	}
	found := false
	for _, i := range asked {
		if !c.known[i] && known.contains(c.unknownPart(i)) {
			c.known[i] = true
			found = true
		}
	}
	return found
}

// unknownPart returns the sum of the summands of a term that are not known.
func (c *closure) unknownPart(i int) places {
	var p places
	for _, k := range c.summands[i] {
		if !c.known[k] {
			p.set(k)
		}
	}
	return p
}
