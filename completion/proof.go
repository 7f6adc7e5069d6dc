package completion

import (
	"slices"
	"strconv"

	"sealring/api"
	"sealring/subst"
	"sealring/term"
	"sealring/unify"
)

// maxSteps is the greatest number of steps of a proof that is built.
const maxSteps = 2000

// turned returns steps from a term in the other direction.
func turned(from *api.Term, l []api.Equal) []api.Equal {
	var back []api.Equal
	for i := range slices.Backward(l) {
		s := l[i]
		s.Back = !s.Back
		s.Term = *from
		if i > 0 {
			s.Term = l[i-1].Term
		}
		back = append(back, s)
	}
	return back
}

// namedLaw returns a task as a rule with short names: each round of critical
// pairs makes the names of variables longer.
func namedLaw(t task) (law, api.Errno) {
	s := shortNames(&t)
	left, e := subst.Apply(s, t.left)
	if e != api.OK {
		return law{}, e
	}
	right, e := subst.Apply(s, t.right)
	if e != api.OK {
		return law{}, e
	}
	made := law{rule: api.Rule{Left: left, Right: right}}
	for _, step := range t.proof {
		if step.Term, e = subst.Apply(s, step.Term); e != api.OK {
			return law{}, e
		}
		made.proof = append(made.proof, step)
	}
	return made, api.OK
}

// shortNames returns a substitution of all variables of a task: those of the
// left side get the names x0, x1 and so on. Other variables, which only steps
// can have, become x0 too: a step remains right whatever they stand for, and
// the fewer there are, the more terms of a proof are equal.
func shortNames(t *task) []api.Binding {
	left := term.Vars(t.left)
	all := slices.Clone(left)
	for i := range t.proof {
		all = append(all, term.Vars(t.proof[i].Term)...)
	}
	slices.SortFunc(all, term.Compare)
	var s []api.Binding
	for _, x := range slices.CompactFunc(all, func(a, b api.Term) bool { return same(&a, &b) }) {
		i, found := slices.BinarySearchFunc(left, x, term.Compare)
		if !found {
			i = 0
		}
		name := api.Term{Kind: api.TermVar, Name: "x" + strconv.Itoa(i)}
		if !same(&x, &name) {
			s = append(s, api.Binding{Var: x, Term: name})
		}
	}
	return s
}

// result returns the rules there are in the end, and their proofs from the
// given equations.
func (p *procedure) result() ([]api.Rule, [][]api.Equal, api.Errno) {
	var rules []api.Rule
	var proofs [][]api.Equal
	known := make([][]api.Equal, len(p.laws))
	for _, i := range p.active {
		l, e := p.expanded(i, known)
		if e != api.OK {
			return nil, nil, e
		}
		r := &p.laws[i].rule
		rules = append(rules, api.Rule{Left: copyOf(&r.Left), Right: copyOf(&r.Right)})
		proofs = append(proofs, copyOfSteps(l))
	}
	return rules, proofs, api.OK
}

// copyOfSteps returns steps that share no memory with l.
func copyOfSteps(l []api.Equal) []api.Equal {
	c := slices.Clone(l)
	for i := range c {
		c[i].Position = slices.Clone(l[i].Position)
		c[i].Term = copyOf(&l[i].Term)
	}
	return c
}

// expanded returns steps with given equations alone that lead from the left
// side of a law to the right one. It keeps what it finds in known.
func (p *procedure) expanded(i int, known [][]api.Equal) ([]api.Equal, api.Errno) {
	if known[i] != nil {
		return known[i], api.OK
	}
	t, l := p.laws[i].rule.Left, []api.Equal(nil)
	for _, s := range p.laws[i].proof {
		if s.Equation < p.given {
			l = append(l, s)
		} else {
			inner, e := p.expanded(s.Equation, known)
			if e != api.OK {
				return nil, e
			}
			steps, e := placed(&p.laws[s.Equation].rule, inner, &t, &s)
			if e != api.OK {
				return nil, e
			}
			l = append(l, steps...)
		}
		if len(l) > maxSteps {
			return nil, api.ErrTooLarge
		}
		t = s.Term
	}
	known[i] = withoutCircles(&p.laws[i].rule.Left, l)
	return known[i], api.OK
}

// placed returns the steps that do what the step s from t does by a rule: they
// are those of the rule, with its variables replaced, at the position of s.
func placed(r *api.Rule, proof []api.Equal, t *api.Term, s *api.Equal) ([]api.Equal, api.Errno) {
	whole := t
	if s.Back {
		whole = &s.Term
	}
	part, e := term.At(*whole, s.Position)
	if e != api.OK {
		return nil, e
	}
	b, e := unify.Match(r.Left, part)
	if e != api.OK {
		return nil, e
	}
	var l []api.Equal
	for _, inner := range proof {
		replaced, e := subst.Apply(b, inner.Term)
		if e != api.OK {
			return nil, e
		}
		if inner.Term, e = term.Replace(*whole, s.Position, replaced); e != api.OK {
			return nil, e
		}
		if e := term.Valid(inner.Term); e != api.OK {
			return nil, e
		}
		inner.Position = slices.Concat(s.Position, inner.Position)
		l = append(l, inner)
	}
	if s.Back {
		l = turned(whole, l)
	}
	return l, api.OK
}

// withoutCircles leaves out steps from t that lead back to a term that was
// there before.
func withoutCircles(t *api.Term, l []api.Equal) []api.Equal {
	last := map[string]int{} // the number of steps behind which a term comes for the last time
	for i := range l {
		last[textOf(&l[i].Term)] = i + 1
	}
	var kept []api.Equal
	for i := last[textOf(t)]; i < len(l); i = last[textOf(&l[i].Term)] {
		kept = append(kept, l[i])
	}
	return kept
}

// textOf returns the text of a valid term.
func textOf(t *api.Term) string {
	s, _ := term.Format(*t)
	return s
}
