package completion_test

import (
	"slices"

	"sealring/api"
	"sealring/order"
	"sealring/rewrite"
	"sealring/subst"
	"sealring/term"
	"sealring/unify"
)

// refRulesError is the error of rules, by the definition.
func refRulesError(l []api.Rule) api.Errno {
	if e := rewrite.Valid(l); e != api.OK {
		return e
	}
	for _, r := range l {
		for _, x := range slices.Concat(term.Vars(r.Left), term.Vars(r.Right)) {
			if x.Sort != api.SortAny {
				return api.ErrType
			}
		}
	}
	return api.OK
}

// refPairs returns the critical pairs by the definition.
func refPairs(l []api.Rule) ([]api.Critical, api.Errno) {
	if e := refRulesError(l); e != api.OK {
		return nil, e
	}
	var found []api.Critical
	for a := range l {
		for b := range l {
			for _, at := range term.Positions(l[a].Left) {
				part, _ := term.At(l[a].Left, at)
				if part.Kind == api.TermVar || len(at) == 0 && a >= b {
					continue
				}
				c, is, e := refPair(l[a], l[b], at)
				if e != api.OK || is && len(found) == 200 {
					return nil, api.ErrTooLarge
				}
				if is {
					c.A, c.B = a, b
					found = append(found, c)
				}
			}
		}
	}
	return found, api.OK
}

// refPair returns the critical pair of an overlap, and whether there is one.
func refPair(a, b api.Rule, at []int) (api.Critical, bool, api.Errno) {
	var sides []api.Term
	for i, t := range []api.Term{a.Left, a.Right, b.Left, b.Right} {
		u, e := subst.Rename(t, []string{"#0", "#0", "#1", "#1"}[i])
		if e != api.OK {
			return api.Critical{}, false, e
		}
		sides = append(sides, u)
	}
	part, _ := term.At(sides[0], at)
	s, e := unify.Unify(part, sides[2])
	if e == api.ErrTooLarge {
		return api.Critical{}, false, e
	}
	if e != api.OK {
		return api.Critical{}, false, api.OK
	}
	c := api.Critical{Position: at, Left: replace(s, sides[1]), Right: replace(s, put(sides[0], at, sides[3]))}
	if term.Valid(c.Left) != api.OK || term.Valid(c.Right) != api.OK {
		return api.Critical{}, false, api.ErrTooLarge
	}
	return c, true, api.OK
}

// refInterreduce is Interreduce, step by step.
func refInterreduce(l []api.Rule, fuel int) ([]api.Rule, api.Errno) {
	if e := refRulesError(l); e != api.OK {
		return nil, e
	}
	if fuel < 0 || fuel > 1000 {
		return nil, api.ErrRange
	}
	first := slices.Clone(l)
	for i := range first {
		u, _, e := rewrite.Normal(l, l[i].Right, fuel)
		if e != api.OK {
			return nil, e
		}
		first[i].Right = u
	}
	var second []api.Rule
	for i := range first {
		if !slices.ContainsFunc(first[:i], func(r api.Rule) bool { return sameRule(r, first[i]) }) {
			second = append(second, first[i])
		}
	}
	gone := make([]bool, len(second))
	for i := range second {
		var others []api.Rule
		for k := range second {
			if k != i && !gone[k] {
				others = append(others, second[k])
			}
		}
		gone[i] = len(rewrite.Redexes(others, second[i].Left)) > 0
	}
	var third []api.Rule
	for i := range second {
		if !gone[i] {
			third = append(third, second[i])
		}
	}
	return third, api.OK
}

// refEquations reports whether a list has equations, by the definition.
func refEquations(l []api.Rule) bool {
	for _, q := range l {
		for _, t := range []api.Term{q.Left, q.Right} {
			if term.Valid(t) != api.OK || slices.ContainsFunc(term.Vars(t), func(x api.Term) bool { return x.Sort != api.SortAny }) {
				return false
			}
		}
	}
	return len(l) <= 40
}

// equalOutside reports whether two terms are equal outside of a position of
// both.
func equalOutside(t, u api.Term, at []int) bool {
	if len(at) == 0 {
		return true
	}
	i := at[0]
	if i < 0 || i >= len(t.Kids) || len(t.Kids) != len(u.Kids) || t.Kind != u.Kind || t.Name != u.Name || t.Sort != u.Sort {
		return false
	}
	for k := range t.Kids {
		if k != i && !same(t.Kids[k], u.Kids[k]) {
			return false
		}
	}
	return equalOutside(t.Kids[i], u.Kids[i], at[1:])
}

// refStep reports whether a step from t is right, by the definition.
func refStep(equations []api.Rule, t api.Term, s api.Equal) bool {
	if term.Valid(t) != api.OK || term.Valid(s.Term) != api.OK || s.Equation < 0 || s.Equation >= len(equations) {
		return false
	}
	before, e := term.At(t, s.Position)
	after, f := term.At(s.Term, s.Position)
	if e != api.OK || f != api.OK || !equalOutside(t, s.Term, s.Position) {
		return false
	}
	q := equations[s.Equation]
	to := app("pair", before, after)
	if s.Back {
		to = app("pair", after, before)
	}
	_, e = unify.Match(app("pair", q.Left, q.Right), to)
	return e == api.OK
}

// refCheck is Check, by the definition.
func refCheck(equations []api.Rule, precedence []string, c api.Completion) bool {
	if !refEquations(equations) || refRulesError(c.Rules) != api.OK || len(c.Proofs) != len(c.Rules) || len(c.Equations) != len(equations) {
		return false
	}
	for i, r := range c.Rules {
		if way, e := order.Lpo(precedence, r.Left, r.Right); way != 1 || e != api.OK {
			return false
		}
		t := r.Left
		for _, s := range c.Proofs[i] {
			if !refStep(equations, t, s) {
				return false
			}
			t = s.Term
		}
		if !same(t, r.Right) {
			return false
		}
	}
	pairs, e := refPairs(c.Rules)
	if e != api.OK || len(pairs) != len(c.Joins) {
		return false
	}
	for i, p := range pairs {
		if !rewrite.CheckJoin(c.Rules, p.Left, p.Right, c.Joins[i]) {
			return false
		}
	}
	for i, q := range equations {
		if !rewrite.CheckJoin(c.Rules, q.Left, q.Right, c.Equations[i]) {
			return false
		}
	}
	return true
}

// refSimple returns the simple completion, and whether there is one.
func refSimple(equations []api.Rule, precedence []string) (api.Completion, bool) {
	var c api.Completion
	for i, q := range equations {
		way, e := order.Lpo(precedence, q.Left, q.Right)
		if e != api.OK || way == 2 {
			return c, false
		}
		if way == 0 {
			continue
		}
		if way == -1 {
			q.Left, q.Right = q.Right, q.Left
		}
		c.Rules = append(c.Rules, q)
		c.Proofs = append(c.Proofs, []api.Equal{{Equation: i, Back: way == -1, Term: q.Right}})
	}
	pairs, e := refPairs(c.Rules)
	if e != api.OK {
		return c, false
	}
	for _, p := range pairs {
		j, e := rewrite.Joins(c.Rules, p.Left, p.Right, 100)
		if e != api.OK {
			return c, false
		}
		c.Joins = append(c.Joins, j)
	}
	for _, q := range equations {
		j, e := rewrite.Joins(c.Rules, q.Left, q.Right, 100)
		if e != api.OK {
			return c, false
		}
		c.Equations = append(c.Equations, j)
	}
	return c, true
}
