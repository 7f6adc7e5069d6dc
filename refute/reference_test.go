package refute_test

import (
	"fmt"
	"math/big"
	"slices"
	"strings"

	"sealring/api"
	"sealring/exponent"
	"sealring/refute"
	"sealring/term"
	"sealring/theory"
	"sealring/xor"
)

// Here the definitions are followed word by word, for short lists.

// refPublic reports whether a term is public.
func refPublic(t api.Term) bool {
	if t.Kind == api.TermApp {
		return len(t.Kids) == 0 && (t.Name == "zero" || t.Name == "one")
	}
	if t.Kind != api.TermAtom {
		return false
	}
	digits, own := strings.CutPrefix(t.Name, "e#")
	own = own && digits != "" && strings.Trim(digits, "0123456789") == ""
	return t.Sort == api.SortAgent || t.Sort == api.SortTag ||
		t.Sort == api.SortData && t.Name == "g" ||
		own && slices.Contains([]int{api.SortNonce, api.SortKey, api.SortData, api.SortAny}, t.Sort)
}

// refSubterms returns the subterms of some terms, in order, each once.
func refSubterms(l []api.Term) []api.Term {
	var all []api.Term
	var visit func(t api.Term)
	visit = func(t api.Term) {
		if !has(all, t) {
			all = append(all, t)
		}
		for _, kid := range t.Kids {
			visit(kid)
		}
	}
	for _, t := range l {
		visit(t)
	}
	slices.SortFunc(all, term.Compare)
	return all
}

// refProduct returns the product of a plain term.
func refProduct(t api.Term) []api.Power {
	l, e := exponent.Of(t)
	if e != api.OK {
		panic("no product: " + text(t))
	}
	return l
}

// refCrowded reports whether there are more exponents or factors among subterms
// than a universe may have.
func refCrowded(subterms []api.Term) bool {
	exponents := 0
	var factors []api.Term
	add := func(t api.Term) {
		for _, p := range refProduct(t) {
			if !has(factors, p.Term) {
				factors = append(factors, p.Term)
			}
		}
	}
	for _, t := range subterms {
		if applies(t, "mul", "inv") {
			exponents++
			add(t)
		}
		if applies(t, "exp") {
			add(t.Kids[1])
		}
	}
	return exponents > 4 || len(factors) > 8
}

// refTerms returns the first error of some terms by themselves.
func refTerms(l ...api.Term) api.Errno {
	for _, t := range l {
		switch {
		case theory.Valid(t) != api.OK:
			return theory.Valid(t)
		case len(term.Vars(t)) > 0:
			return api.ErrUnbound
		case !theory.Plain(t):
			return api.ErrType
		}
	}
	return api.OK
}

// refUniverse returns the universe of a list and a term.
func refUniverse(k []api.Term, t api.Term) ([]api.Term, api.Errno) {
	if len(k) > 60 {
		return nil, api.ErrTooLarge
	}
	l := append(slices.Clone(k), t)
	if e := refTerms(l...); e != api.OK {
		return nil, e
	}
	universe := refSubterms(l)
	if len(universe) > 200 || refCrowded(universe) {
		return nil, api.ErrTooLarge
	}
	return universe, api.OK
}

// refGenerated reports whether products generate one, by an elimination with
// integers of any size that keeps rows in echelon form.
func refGenerated(generators [][]api.Power, product []api.Power) bool {
	var columns []api.Term
	for _, p := range slices.Concat(append(slices.Clone(generators), product)...) {
		if !has(columns, p.Term) {
			columns = append(columns, p.Term)
		}
	}
	row := func(l []api.Power) []*big.Int {
		v := make([]*big.Int, len(columns))
		for i, f := range columns {
			v[i] = big.NewInt(0)
			for _, p := range l {
				if same(p.Term, f) {
					v[i].Add(v[i], big.NewInt(int64(p.N)))
				}
			}
		}
		return v
	}
	pivots := make([][]*big.Int, len(columns))
	for _, g := range generators {
		refInsert(pivots, row(g))
	}
	last := row(product)
	for c := range columns {
		if last[c].Sign() == 0 {
			continue
		}
		if pivots[c] == nil || new(big.Int).Rem(last[c], pivots[c][c]).Sign() != 0 {
			return false
		}
		refSubtract(last, pivots[c], new(big.Int).Quo(last[c], pivots[c][c]))
	}
	return true
}

// refInsert adds a row to rows in echelon form.
func refInsert(pivots [][]*big.Int, v []*big.Int) {
	for c := range v {
		if v[c].Sign() == 0 {
			continue
		}
		if pivots[c] == nil {
			pivots[c] = v
			return
		}
		for v[c].Sign() != 0 {
			refSubtract(pivots[c], v, new(big.Int).Quo(pivots[c][c], v[c]))
			pivots[c], v = v, pivots[c]
		}
	}
}

func refSubtract(from, row []*big.Int, n *big.Int) {
	for i := range from {
		from[i].Sub(from[i], new(big.Int).Mul(n, row[i]))
	}
}

// refBase returns the base of a term, and the product of its exponent.
func refBase(t api.Term) (api.Term, []api.Power) {
	if applies(t, "exp") {
		return t.Kids[0], refProduct(t.Kids[1])
	}
	return t, nil
}

// refLeads reports whether one step leads from s to u.
func refLeads(s []api.Term, u api.Term) bool {
	return has(s, u) || refPublic(u) || refComposes(s, u) || refOpens(s, u) || refAdds(s, u) || refMultiplies(s, u)
}

// refComposes is rule 1.
func refComposes(s []api.Term, u api.Term) bool {
	if !applies(u, "pair", "enc", "aenc", "pk", "sign", "hash") {
		return false
	}
	return !slices.ContainsFunc(u.Kids, func(kid api.Term) bool { return !has(s, kid) })
}

// refOpens is rule 2.
func refOpens(s []api.Term, u api.Term) bool {
	for _, t := range s {
		switch {
		case applies(t, "pair") && (same(t.Kids[0], u) || same(t.Kids[1], u)):
			return true
		case applies(t, "enc") && same(t.Kids[0], u) && has(s, t.Kids[1]):
			return true
		case applies(t, "aenc") && same(t.Kids[0], u) && applies(t.Kids[1], "pk") && has(s, t.Kids[1].Kids[0]):
			return true
		case applies(t, "sign") && same(t.Kids[0], u):
			return true
		}
	}
	return false
}

// refAdds is rule 3.
func refAdds(s []api.Term, u api.Term) bool {
	_, e := xor.Span(s, u)
	return e == api.OK
}

// refMultiplies is rule 4 or 5.
func refMultiplies(s []api.Term, u api.Term) bool {
	var generators [][]api.Power
	for _, t := range s {
		generators = append(generators, refProduct(t))
	}
	b, e := refBase(u)
	for _, t := range s {
		if c, f := refBase(t); same(b, c) && refGenerated(generators, slices.Concat(e, exponent.Inverse(f))) {
			return true
		}
	}
	return refGenerated(generators, refProduct(u))
}

// refStep is Step.
func refStep(s []api.Term, t api.Term) (bool, api.Errno) {
	if len(s) > 200 {
		return false, api.ErrTooLarge
	}
	l := append(slices.Clone(s), t)
	if e := refTerms(l...); e != api.OK {
		return false, e
	}
	if refCrowded(refSubterms(l)) {
		return false, api.ErrTooLarge
	}
	return refLeads(s, t), api.OK
}

// refClosed is Closed.
func refClosed(s, universe []api.Term) (api.Term, bool) {
	var found []api.Term
	for _, u := range universe {
		is, e := refStep(s, u)
		if e != api.OK {
			return api.Term{}, false
		}
		if is && !has(s, u) {
			found = append(found, u)
		}
	}
	if len(found) == 0 {
		return api.Term{}, true
	}
	return slices.MinFunc(found, term.Compare), false
}

// refKnown returns what is known of a universe, of which k is a part, in order.
func refKnown(k, universe []api.Term) []api.Term {
	var s []api.Term
	for _, t := range universe {
		if has(k, t) || refPublic(t) {
			s = append(s, t)
		}
	}
	for found := true; found; {
		found = false
		for _, t := range universe {
			if !has(s, t) && refLeads(s, t) {
				s = append(s, t)
				found = true
			}
		}
	}
	slices.SortFunc(s, term.Compare)
	return s
}

// without returns the terms of a list that are not in another one.
func without(l, s []api.Term) []api.Term {
	return slices.DeleteFunc(slices.Clone(l), func(t api.Term) bool { return has(s, t) })
}

// refBlocked is Blocked for a question without errors.
func refBlocked(k []api.Term, t api.Term) []api.Term {
	universe, _ := refUniverse(k, t)
	known := refKnown(k, universe)
	missing := without(universe, known)
	var l []api.Term
	for _, u := range missing {
		if slices.ContainsFunc(missing, func(v api.Term) bool {
			return !same(u, v) && refLeads(append(slices.Clone(known), u), v)
		}) {
			l = append(l, u)
		}
	}
	return l
}

// refReduced leaves out the powers whose factors are in a set.
func refReduced(l []api.Power, s []api.Term) []api.Power {
	var left []api.Power
	for _, p := range l {
		if !has(s, p.Term) {
			left = append(left, p)
		}
	}
	return left
}

// refGenerators returns the generators of a set, reduced by it.
func refGenerators(s []api.Term) [][]api.Power {
	var l [][]api.Power
	for _, t := range s {
		if applies(t, "mul", "inv") {
			l = append(l, refReduced(refProduct(t), s))
		}
	}
	return l
}

// A wanted is an element that Powers of a refusal is to have: with this Term and
// Base, and a character for this product.
type wanted struct {
	term, base api.Term
	product    []api.Power
}

// refPowers returns the elements that Powers is to have, for missing terms.
func refPowers(known, missing []api.Term) []wanted {
	var l []wanted
	for _, u := range missing {
		l = append(l, wanted{u, app("one"), refReduced(refProduct(u), known)})
		b, e := refBase(u)
		for _, s := range known {
			if c, f := refBase(s); same(b, c) {
				q, err := exponent.Mul(e, exponent.Inverse(f))
				if err != api.OK {
					panic("no quotient")
				}
				l = append(l, wanted{u, s, refReduced(q, known)})
			}
		}
	}
	return l
}

// refCheck is Check.
func refCheck(k []api.Term, t api.Term, r api.Refusal) bool {
	universe, e := refUniverse(k, t)
	if e != api.OK {
		return false
	}
	for i, x := range r.Known {
		if !has(universe, x) || i > 0 && term.Compare(r.Known[i-1], x) != -1 {
			return false
		}
	}
	for _, x := range universe {
		if (refPublic(x) || has(k, x)) && !has(r.Known, x) {
			return false
		}
	}
	missing := without(universe, r.Known)
	if !has(missing, t) || len(r.Sums) != len(missing) {
		return false
	}
	for i, u := range missing {
		if refComposes(r.Known, u) || refOpens(r.Known, u) {
			return false
		}
		if !same(r.Sums[i].Term, u) || !xor.CheckRefute(r.Known, u, r.Sums[i].Odd) {
			return false
		}
	}
	return slices.EqualFunc(refPowers(r.Known, missing), r.Powers, func(w wanted, n api.NoPower) bool {
		return same(n.Term, w.term) && same(n.Base, w.base) && exponent.CheckRefute(refGenerators(r.Known), w.product, n.Shows)
	})
}

// refFormat is Format.
func refFormat(r api.Refusal) (string, api.Errno) {
	failed := api.OK
	write := func(t api.Term) string {
		if failed == api.OK {
			failed = term.Valid(t)
		}
		s, _ := term.Format(t)
		return s
	}
	s := ""
	for _, t := range r.Known {
		s += "known " + write(t) + "\n"
	}
	for _, n := range r.Sums {
		s += "sum " + write(n.Term)
		for _, t := range n.Odd {
			s += " | " + write(t)
		}
		s += "\n"
	}
	for _, n := range r.Powers {
		s += "power " + write(n.Term)
		s += " | " + write(n.Base)
		s += fmt.Sprintf(" mod %d", n.Shows.Mod)
		for _, p := range n.Shows.Values {
			s += " | " + write(p.Term)
			s += fmt.Sprintf(" %d", p.N)
		}
		s += "\n"
	}
	if failed != api.OK {
		return "", failed
	}
	return s, api.OK
}

// attempt returns a refusal with a Known of one's own: one that is right, if
// there is one. Where there is no certificate, it has an empty one.
func attempt(known, universe []api.Term) api.Refusal {
	missing := without(universe, known)
	r := api.Refusal{Known: known}
	for _, u := range missing {
		odd, _ := xor.Refute(known, u)
		r.Sums = append(r.Sums, api.NoSum{Term: u, Odd: odd})
	}
	for _, w := range refPowers(known, missing) {
		shows, _ := exponent.Refute(refGenerators(known), w.product)
		r.Powers = append(r.Powers, api.NoPower{Term: w.term, Base: w.base, Shows: shows})
	}
	return r
}

// built is Build of a question whose term is not derivable.
func built(q question) api.Refusal {
	r, e := refute.Build(q.k, q.t)
	if e != api.OK {
		panic("not refused: " + texts(q.k) + "; " + text(q.t))
	}
	return r
}
