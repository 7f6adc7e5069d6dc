package knowledge

import (
	"slices"

	"sealring/api"
)

// A closure says what of a universe is known so far.
type closure struct {
	*universe
	known []bool // by the places of terms
}

// closed returns what is known of a universe with some of its terms.
func (u *universe) closed(l []api.Term) *closure {
	c := &closure{universe: u, known: make([]bool, len(u.terms))}
	for i := range u.terms {
		c.known[i] = Public(u.terms[i])
	}
	for i := range l {
		c.known[u.place(l[i])] = true
	}
	c.close()
	return c
}

// with returns what is known if one more term is given.
func (c *closure) with(i int) *closure {
	more := &closure{universe: c.universe, known: slices.Clone(c.known)}
	more.known[i] = true
	more.close()
	return more
}

// close adds all terms of the universe to which steps lead. Those that cost
// more are looked for only if all others have been found.
func (c *closure) close() {
	for c.openOrBuild() || c.addSums() || c.multiply() {
	}
}

// learn adds a term, and reports whether it is new.
func (c *closure) learn(i int) bool {
	if c.known[i] {
		return false
	}
	c.known[i] = true
	return true
}

// openOrBuild follows the rules 1 and 2, and reports whether anything is new.
func (c *closure) openOrBuild() bool {
	found := false
	for i := range c.terms {
		if !c.known[i] && c.isBuilt(i) {
			c.known[i] = true
			found = true
		}
		if c.known[i] && c.open(i) {
			found = true
		}
	}
	return found
}

// isBuilt reports whether a term is put together from known ones.
func (c *closure) isBuilt(i int) bool {
	if c.terms[i].Kind != api.TermApp {
		return false
	}
	switch c.terms[i].Name {
	case pair, enc, aenc, pk, sign, hash:
		return c.areKnown(c.kids[i])
	}
	return false
}

func (c *closure) areKnown(l []int) bool {
	return !slices.ContainsFunc(l, func(i int) bool { return !c.known[i] })
}

// open adds what a known term shows of its kids, and reports whether anything
// is new.
func (c *closure) open(i int) bool {
	t := &c.terms[i]
	if t.Kind != api.TermApp {
		return false
	}
	switch t.Name {
	case pair:
		first, second := c.learn(c.kids[i][0]), c.learn(c.kids[i][1])
		return first || second
	case enc:
		return c.known[c.kids[i][1]] && c.learn(c.kids[i][0])
	case aenc:
		return applies(&t.Kids[1], pk) && c.known[c.privateKey(i)] && c.learn(c.kids[i][0])
	case sign:
		return c.learn(c.kids[i][0])
	}
	return false
}
