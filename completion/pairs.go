package completion

import (
	"slices"

	"sealring/api"
	"sealring/subst"
	"sealring/term"
	"sealring/unify"
)

// maxPairs is the greatest number of critical pairs.
const maxPairs = 200

// Pairs returns the critical pairs of rules.
func Pairs(rules []api.Rule) ([]api.Critical, api.Errno) {
	if e := rulesError(rules); e != api.OK {
		return nil, e
	}
	parties := make([]party, len(rules))
	for i := range rules {
		parties[i] = partyOf(&rules[i])
	}
	var l []api.Critical
	for a := range parties {
		for b := range parties {
			meetings, all := parties[a].meet(&parties[b], a < b)
			if !all || len(l)+len(meetings) > maxPairs {
				return nil, api.ErrTooLarge
			}
			for _, m := range meetings {
				l = append(l, api.Critical{A: a, B: b, Position: m.at, Left: m.left, Right: m.right})
			}
		}
	}
	return l, api.OK
}

// A party is a rule that takes part in overlaps: as the first rule, whose
// variables have the suffix #0, and as the second one, with the suffix #1.
type party struct {
	first, second api.Rule
	named         bool // the names are not too long with a suffix
	places        []place
}

// A place is a part of a left side, as it is without suffixes, that is no
// variable.
type place struct {
	at   []int
	part *api.Term
}

// partyOf returns a valid rule as a party.
func partyOf(r *api.Rule) party {
	first, e := renamed(r, "#0")
	second, f := renamed(r, "#1")
	return party{
		first:  first,
		second: second,
		named:  e == api.OK && f == api.OK,
		places: places(&r.Left, nil, nil),
	}
}

// renamed returns a rule with a suffix behind the names of its variables.
func renamed(r *api.Rule, suffix string) (api.Rule, api.Errno) {
	left, e := subst.Rename(r.Left, suffix)
	if e != api.OK {
		return api.Rule{}, e
	}
	right, e := subst.Rename(r.Right, suffix)
	return api.Rule{Left: left, Right: right}, e
}

// places appends to l the places in t, which stands at the position at, in
// preorder.
func places(t *api.Term, at []int, l []place) []place {
	if t.Kind == api.TermVar {
		return l
	}
	l = append(l, place{slices.Clone(at), t})
	for i := range t.Kids {
		// The next kid may overwrite what is appended here: l has copies only.
		l = places(&t.Kids[i], append(at, i), l)
	}
	return l
}

// A meeting is what comes of an overlap that has a unifier: a critical pair.
type meeting struct {
	at          []int
	unifier     []api.Binding
	left, right api.Term
}

// meet returns the meetings of the overlaps of a, as the first rule, with b,
// by position; that at the root only counts if root is true. It also reports
// whether none is too large; otherwise there is no list.
func (a *party) meet(b *party, root bool) ([]meeting, bool) {
	var l []meeting
	for _, p := range a.places {
		if len(p.at) == 0 && !root {
			continue
		}
		if !a.named || !b.named {
			return nil, false
		}
		if !sameSymbol(p.part, &b.second.Left) {
			continue
		}
		switch m, e := meetAt(&a.first, &b.second, p.at); e {
		case api.OK:
			l = append(l, m)
		case api.ErrTooLarge:
			return nil, false
		}
	}
	return l, true
}

// sameSymbol reports whether two terms that are no variables have the same
// symbol. Otherwise there is no unifier, which is quickly seen here.
func sameSymbol(a, b *api.Term) bool {
	return a.Kind == b.Kind && a.Name == b.Name && a.Sort == b.Sort && len(a.Kids) == len(b.Kids)
}

// meetAt returns the meeting of two rules without common variables at a
// position; with an error if there is none, or it is too large.
func meetAt(a, b *api.Rule, at []int) (meeting, api.Errno) {
	part, e := term.At(a.Left, at)
	if e != api.OK {
		return meeting{}, e
	}
	s, e := unify.Unify(part, b.Left)
	if e != api.OK {
		return meeting{}, e
	}
	left, e := applied(s, a.Right)
	if e != api.OK {
		return meeting{}, e
	}
	right, e := term.Replace(a.Left, at, b.Right)
	if e != api.OK {
		return meeting{}, e
	}
	right, e = applied(s, right)
	return meeting{at: slices.Clone(at), unifier: s, left: left, right: right}, e
}

// applied returns the term to which a unifier is applied. It may have more
// bindings than subst.Apply accepts; but none of its variables occurs in its
// terms, so one part of it can be applied after the other.
func applied(s []api.Binding, t api.Term) (api.Term, api.Errno) {
	for {
		n := min(len(s), api.MaxTerms)
		u, e := subst.Apply(s[:n], t)
		if e != api.OK || n == len(s) {
			return u, e
		}
		s, t = s[n:], u
	}
}
