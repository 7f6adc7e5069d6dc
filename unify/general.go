package unify

import (
	"strconv"

	"sealring/api"
	"sealring/term"
)

// General returns the generalization of two terms.
func General(t, u api.Term) (api.Term, api.Errno) {
	if e := termsError(t, u); e != api.OK {
		return api.Term{}, e
	}
	g := generalizer{taken: map[string]bool{}, given: map[texts]api.Term{}}
	for _, x := range variablesIn(t, u) {
		g.taken[x.Name] = true
	}
	return g.generalize(&t, &u), api.OK
}

// Texts are those of a pair of terms.
type texts struct{ left, right string }

// A generalizer gives new variables to pairs of different terms.
type generalizer struct {
	taken map[string]bool    // names that new variables must not have
	given map[texts]api.Term // the new variables
	next  int                // the number of the next one, if its name is free
}

func (g *generalizer) generalize(t, u *api.Term) api.Term {
	if term.Compare(*t, *u) == 0 {
		return copyOf(t)
	}
	if !sameRoot(t, u) {
		return g.variable(t, u)
	}
	// Only applications can differ in nothing but their kids.
	kids := make([]api.Term, len(t.Kids))
	for i := range kids {
		kids[i] = g.generalize(&t.Kids[i], &u.Kids[i])
	}
	return api.Term{Kind: api.TermApp, Name: t.Name, Kids: kids}
}

// variable returns the variable for two terms.
func (g *generalizer) variable(t, u *api.Term) api.Term {
	var key texts
	// Parts of valid terms have texts.
	key.left, _ = term.Format(*t)
	key.right, _ = term.Format(*u)
	x, found := g.given[key]
	if !found {
		x = api.Term{Kind: api.TermVar, Name: g.newName()}
		if t.Sort == u.Sort {
			x.Sort = t.Sort
		}
		g.given[key] = x
	}
	return x
}

// newName returns the next name that is not taken.
func (g *generalizer) newName() string {
	for {
		name := "g" + strconv.Itoa(g.next)
		g.next++
		if !g.taken[name] {
			return name
		}
	}
}
