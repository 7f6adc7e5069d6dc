package knowledge

import (
	"slices"

	"sealring/api"
	"sealring/exponent"
	"sealring/term"
	"sealring/xor"
)

// A universe has its terms in order, so that each one has a place. The steps
// only look at places, not at terms.
type universe struct {
	terms     []api.Term
	kids      [][]int // the places of the kids of each term
	sums      []int   // the places of the applications of xor
	summands  [][]int // the places of the summands of each term
	exponents []int   // those of the applications of mul and inv
	factors   []int   // those of the factors, in the order of the columns of vectors
	products  []vector
	families  [][]int // for the place of a base: the powers of it, first itself
}

// A vector is a product: the powers of the factors of a universe.
type vector [maxFactors]int

// universeOf returns the universe of some terms that have no errors by
// themselves.
func universeOf(l []api.Term) (*universe, api.Errno) {
	subterms := term.Subterms(l)
	if len(subterms) > api.MaxTerms {
		return nil, api.ErrTooLarge
	}
	u := &universe{terms: subterms}
	u.placeKids()
	u.placeSummands()
	if e := u.placeFactors(); e != api.OK {
		return nil, e
	}
	u.placePowers()
	return u, api.OK
}

// place returns the place of a term.
func (u *universe) place(t api.Term) int {
	i, _ := slices.BinarySearchFunc(u.terms, t, term.Compare)
	return i
}

func (u *universe) placeKids() {
	u.kids = make([][]int, len(u.terms))
	for i := range u.terms {
		t := &u.terms[i]
		for k := range t.Kids {
			u.kids[i] = append(u.kids[i], u.place(t.Kids[k]))
		}
		switch {
		case applies(t, sum):
			u.sums = append(u.sums, i)
		case applies(t, mul) || applies(t, inv):
			u.exponents = append(u.exponents, i)
		}
	}
}

// placeSummands finds the summands of sums. Any other term is its own summand.
func (u *universe) placeSummands() {
	u.summands = make([][]int, len(u.terms))
	for i := range u.terms {
		if !applies(&u.terms[i], sum) {
			u.summands[i] = []int{i}
			continue
		}
		// A plain term has no error, and its summands are terms of the universe.
		l, _ := xor.Parts(u.terms[i])
		for _, t := range l {
			u.summands[i] = append(u.summands[i], u.place(t))
		}
	}
}

// placeFactors finds the factors and the products, of which there may be too
// many.
func (u *universe) placeFactors() api.Errno {
	if len(u.exponents) > maxExponents {
		return api.ErrTooLarge
	}
	shown := slices.Clone(u.exponents)
	for i := range u.terms {
		if applies(&u.terms[i], exp) {
			shown = append(shown, u.kids[i][1])
		}
	}
	for _, i := range shown {
		for _, p := range productOf(u.terms[i]) {
			u.factors = append(u.factors, u.place(p.Term))
		}
	}
	slices.Sort(u.factors)
	u.factors = slices.Compact(u.factors)
	if len(u.factors) > maxFactors {
		return api.ErrTooLarge
	}
	u.products = make([]vector, len(u.terms))
	for _, i := range shown {
		u.products[i] = u.vectorOf(productOf(u.terms[i]))
	}
	for column, i := range u.factors {
		u.products[i][column] = 1
	}
	return api.OK
}

// productOf returns the product of a term, which has one, as it is plain.
func productOf(t api.Term) []api.Power {
	l, _ := exponent.Of(t)
	return l
}

// vectorOf returns the vector of a product of factors of the universe.
func (u *universe) vectorOf(l []api.Power) vector {
	var v vector
	for _, p := range l {
		column, _ := slices.BinarySearch(u.factors, u.place(p.Term))
		v[column] = p.N
	}
	return v
}

// powersOf returns the product that a vector stands for.
func (u *universe) powersOf(v vector) []api.Power {
	var l []api.Power
	for column, i := range u.factors {
		if v[column] != 0 {
			l = append(l, api.Power{Term: u.terms[i], N: v[column]})
		}
	}
	return l
}

// placePowers finds the terms that have a base in common. A base comes before
// its powers in the order of terms.
func (u *universe) placePowers() {
	u.families = make([][]int, len(u.terms))
	for i := range u.terms {
		if applies(&u.terms[i], exp) {
			base := u.kids[i][0]
			if u.families[base] == nil {
				u.families[base] = []int{base}
			}
			u.families[base] = append(u.families[base], i)
		}
	}
}

// power returns the vector of the exponent of a term.
func (u *universe) power(i int) vector {
	if applies(&u.terms[i], exp) {
		return u.products[u.kids[i][1]]
	}
	return vector{}
}

// keys returns the places of what may open an encrypted term, in order.
func (u *universe) keys() []int {
	var l []int
	for i := range u.terms {
		t := &u.terms[i]
		switch {
		case applies(t, enc):
			l = append(l, u.kids[i][1])
		case applies(t, aenc) && applies(&t.Kids[1], pk):
			l = append(l, u.privateKey(i))
		}
	}
	slices.Sort(l)
	return slices.Compact(l)
}

// privateKey returns the place of k, for a term aenc(m, pk(k)).
func (u *universe) privateKey(i int) int {
	return u.kids[u.kids[i][1]][0]
}
