package knowledge_test

import (
	"math/big"
	"slices"
	"strings"

	"sealring/api"
	"sealring/exponent"
	"sealring/term"
	"sealring/theory"
	"sealring/xor"
)

// Here the definitions are followed word by word, for short lists.

// refPublic is Public.
func refPublic(t api.Term) bool {
	if t.Kind == api.TermApp {
		return len(t.Kids) == 0 && (t.Name == "zero" || t.Name == "one")
	}
	if t.Kind != api.TermAtom {
		return false
	}
	digits, own := strings.CutPrefix(t.Name, "e#")
	own = own && digits != "" && strings.Trim(digits, "0123456789") == ""
	return t.Sort == api.SortAgent || t.Sort == api.SortTag ||
		t.Sort == api.SortData && t.Name == "g" ||
		own && slices.Contains([]int{api.SortNonce, api.SortKey, api.SortData, api.SortAny}, t.Sort)
}

// refSubterms returns the subterms of some terms, in order, each once.
func refSubterms(l []api.Term) []api.Term {
	var all []api.Term
	var visit func(t api.Term)
	visit = func(t api.Term) {
		if !has(all, t) {
			all = append(all, t)
		}
		for _, kid := range t.Kids {
			visit(kid)
		}
	}
	for _, t := range l {
		visit(t)
	}
	slices.SortFunc(all, term.Compare)
	return all
}

func applies(t api.Term, names ...string) bool {
	return t.Kind == api.TermApp && slices.Contains(names, t.Name)
}

// refProduct returns the product of a plain term.
func refProduct(t api.Term) []api.Power {
	l, e := exponent.Of(t)
	if e != api.OK {
		panic("no product: " + text(t))
	}
	return l
}

// refExponents returns the exponents of a universe.
func refExponents(universe []api.Term) []api.Term {
	var l []api.Term
	for _, t := range universe {
		if applies(t, "mul", "inv") {
			l = append(l, t)
		}
	}
	return l
}

// refFactors returns the factors of a universe.
func refFactors(universe []api.Term) []api.Term {
	var all []api.Term
	add := func(t api.Term) {
		for _, p := range refProduct(t) {
			if !has(all, p.Term) {
				all = append(all, p.Term)
			}
		}
	}
	for _, t := range universe {
		if applies(t, "mul", "inv") {
			add(t)
		}
		if applies(t, "exp") {
			add(t.Kids[1])
		}
	}
	return all
}

// refTerms returns the first error of some terms by themselves.
func refTerms(l ...api.Term) api.Errno {
	for _, t := range l {
		switch {
		case theory.Valid(t) != api.OK:
			return theory.Valid(t)
		case len(term.Vars(t)) > 0:
			return api.ErrUnbound
		case !theory.Plain(t):
			return api.ErrType
		}
	}
	return api.OK
}

// refUniverse is Universe, of terms and, if there are some, further ones.
func refUniverse(k []api.Term, further ...api.Term) ([]api.Term, api.Errno) {
	if len(k) > 60 {
		return nil, api.ErrTooLarge
	}
	l := append(slices.Clone(k), further...)
	if e := refTerms(l...); e != api.OK {
		return nil, e
	}
	universe := refSubterms(l)
	if len(universe) > 200 || len(refExponents(universe)) > 4 || len(refFactors(universe)) > 8 {
		return nil, api.ErrTooLarge
	}
	return universe, api.OK
}

// refGenerated reports whether products generate one, by an elimination with
// integers of any size that keeps rows in echelon form.
func refGenerated(generators [][]api.Power, product []api.Power) bool {
	var columns []api.Term
	for _, p := range slices.Concat(append(slices.Clone(generators), product)...) {
		if !has(columns, p.Term) {
			columns = append(columns, p.Term)
		}
	}
	row := func(l []api.Power) []*big.Int {
		v := make([]*big.Int, len(columns))
		for i, f := range columns {
			v[i] = big.NewInt(0)
			for _, p := range l {
				if same(p.Term, f) {
					v[i].Add(v[i], big.NewInt(int64(p.N)))
				}
			}
		}
		return v
	}
	pivots := make([][]*big.Int, len(columns))
	for _, g := range generators {
		refInsert(pivots, row(g))
	}
	last := row(product)
	for c := range columns {
		if last[c].Sign() == 0 {
			continue
		}
		if pivots[c] == nil || new(big.Int).Rem(last[c], pivots[c][c]).Sign() != 0 {
			return false
		}
		refSubtract(last, pivots[c], new(big.Int).Quo(last[c], pivots[c][c]))
	}
	return true
}

// refInsert adds a row to rows in echelon form.
func refInsert(pivots [][]*big.Int, v []*big.Int) {
	for c := range v {
		if v[c].Sign() == 0 {
			continue
		}
		if pivots[c] == nil {
			pivots[c] = v
			return
		}
		for v[c].Sign() != 0 {
			refSubtract(pivots[c], v, new(big.Int).Quo(pivots[c][c], v[c]))
			pivots[c], v = v, pivots[c]
		}
	}
}

func refSubtract(from, row []*big.Int, n *big.Int) {
	for i := range from {
		from[i].Sub(from[i], new(big.Int).Mul(n, row[i]))
	}
}

// refBase returns the base of a term, and the product of its exponent.
func refBase(t api.Term) (api.Term, []api.Power) {
	if applies(t, "exp") {
		return t.Kids[0], refProduct(t.Kids[1])
	}
	return t, nil
}

// refStep reports whether one step leads from s to u.
func refStep(s []api.Term, u api.Term) bool {
	return has(s, u) || refPublic(u) || refBuilds(s, u) || refOpens(s, u) || refAdds(s, u) || refMultiplies(s, u)
}

// refBuilds is rule 1.
func refBuilds(s []api.Term, u api.Term) bool {
	if !applies(u, "pair", "enc", "aenc", "pk", "sign", "hash") {
		return false
	}
	return !slices.ContainsFunc(u.Kids, func(kid api.Term) bool { return !has(s, kid) })
}

// refOpens is rule 2.
func refOpens(s []api.Term, u api.Term) bool {
	for _, t := range s {
		switch {
		case applies(t, "pair") && (same(t.Kids[0], u) || same(t.Kids[1], u)):
			return true
		case applies(t, "enc") && same(t.Kids[0], u) && has(s, t.Kids[1]):
			return true
		case applies(t, "aenc") && same(t.Kids[0], u) && applies(t.Kids[1], "pk") && has(s, t.Kids[1].Kids[0]):
			return true
		case applies(t, "sign") && same(t.Kids[0], u):
			return true
		}
	}
	return false
}

// refAdds is rule 3.
func refAdds(s []api.Term, u api.Term) bool {
	_, e := xor.Span(s, u)
	return e == api.OK
}

// refMultiplies is rule 4 or 5.
func refMultiplies(s []api.Term, u api.Term) bool {
	var generators [][]api.Power
	for _, t := range s {
		generators = append(generators, refProduct(t))
	}
	b, e := refBase(u)
	for _, t := range s {
		if c, f := refBase(t); same(b, c) && refGenerated(generators, slices.Concat(e, exponent.Inverse(f))) {
			return true
		}
	}
	return refGenerated(generators, refProduct(u))
}

// refKnown returns what is known of a universe, of which k is a part, in order.
func refKnown(k, universe []api.Term) []api.Term {
	var s []api.Term
	for _, t := range universe {
		if has(k, t) || refPublic(t) {
			s = append(s, t)
		}
	}
	for found := true; found; {
		found = false
		for _, t := range universe {
			if !has(s, t) && refStep(s, t) {
				s = append(s, t)
				found = true
			}
		}
	}
	slices.SortFunc(s, term.Compare)
	return s
}

// refDerivable is Derivable for terms without errors.
func refDerivable(k []api.Term, t api.Term) bool {
	universe, _ := refUniverse(k, t)
	return has(refKnown(k, universe), t)
}

// refMinimal is Minimal for a list without errors.
func refMinimal(k []api.Term) []api.Term {
	left := slices.Clone(k)
	for i := len(k) - 1; i >= 0; i-- {
		others := slices.Concat(left[:i:i], left[i+1:])
		if refDerivable(others, left[i]) {
			left = others
		}
	}
	return left
}

// refKeys is Opens for terms without errors.
func refKeys(k []api.Term, t api.Term) []api.Term {
	universe, _ := refUniverse(k, t)
	known := refKnown(k, universe)
	var l []api.Term
	for _, u := range universe {
		isKey := slices.ContainsFunc(universe, func(x api.Term) bool {
			return applies(x, "enc") && same(x.Kids[1], u) ||
				applies(x, "aenc") && applies(x.Kids[1], "pk") && same(x.Kids[1].Kids[0], u)
		})
		if isKey && !has(known, t) && !has(known, u) && has(refKnown(append(slices.Clone(k), u), universe), t) {
			l = append(l, u)
		}
	}
	return l
}
