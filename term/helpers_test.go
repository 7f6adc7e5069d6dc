package term_test

import (
	"fmt"
	"math/rand/v2"
	"slices"
	"strings"
	"testing"

	"sealring/api"
	"sealring/term"
)

func variable(name string, sort int) api.Term {
	return api.Term{Kind: api.TermVar, Name: name, Sort: sort}
}

func atom(name string, sort int) api.Term {
	return api.Term{Kind: api.TermAtom, Name: name, Sort: sort}
}

func app(name string, kids ...api.Term) api.Term {
	return api.Term{Kind: api.TermApp, Name: name, Kids: kids}
}

// times returns a list with n times the same term.
func times(n int, t api.Term) []api.Term {
	return slices.Repeat([]api.Term{t}, n)
}

// tower returns a term of the given depth, in which every node but the lowest
// one has one kid.
func tower(depth int, leaf api.Term) api.Term {
	for range depth - 1 {
		leaf = app("g", leaf)
	}
	return leaf
}

// wide returns a term with n nodes, from 73 to 585, that has at most 4 levels
// and 8 kids at each node.
func wide(n int) api.Term {
	a := atom("a", api.SortAny)
	level := times(8, app("h", times(8, a)...))
	n -= 1 + 8 + 64
	for i := range level {
		level[i].Kids = slices.Clone(level[i].Kids)
		for k := range level[i].Kids {
			m := min(8, n)
			n -= m
			if m > 0 {
				level[i].Kids[k] = app("k", times(m, a)...)
			}
		}
	}
	return app("f", level...)
}

// same is equality by the definition: nil and empty lists of kids are equal.
func same(a, b api.Term) bool {
	return a.Kind == b.Kind && a.Name == b.Name && a.Sort == b.Sort && slices.EqualFunc(a.Kids, b.Kids, same)
}

func sameList(a, b []api.Term) bool {
	return slices.EqualFunc(a, b, same)
}

// must parses a text that is right.
func must(t *testing.T, s string) api.Term {
	t.Helper()
	x, e := term.Parse(s)
	if e != api.OK {
		t.Fatalf("Parse(%q): %v", s, e)
	}
	return x
}

func mustAll(t *testing.T, texts ...string) []api.Term {
	t.Helper()
	var l []api.Term
	for _, s := range texts {
		l = append(l, must(t, s))
	}
	return l
}

// show writes any term, valid or not, with all that it contains.
func show(t api.Term) string {
	return fmt.Sprintf("%+v", t)
}

// arrays returns the addresses of the lists of kids in some terms.
func arrays(terms ...api.Term) []*api.Term {
	var l []*api.Term
	for _, t := range terms {
		if len(t.Kids) > 0 {
			l = append(l, &t.Kids[0])
			l = append(l, arrays(t.Kids...)...)
		}
	}
	return l
}

// apart checks that no two lists of kids of these terms share memory.
func apart(t *testing.T, what string, terms ...api.Term) {
	t.Helper()
	seen := map[*api.Term]bool{}
	for _, p := range arrays(terms...) {
		if seen[p] {
			t.Errorf("%s: memory is shared", what)
			return
		}
		seen[p] = true
	}
}

// random returns a term that is valid, with at most the given depth.
func random(r *rand.Rand, depth int) api.Term {
	names := []string{"a", "b", "f", "a#0", "Z_9", strings.Repeat("x", api.MaxName)}
	name := names[r.IntN(len(names))]
	switch kind := r.IntN(4); {
	case kind == 0:
		return variable(name, r.IntN(6))
	case kind == 1 || depth == 1:
		return atom(name, r.IntN(6))
	}
	kids := make([]api.Term, r.IntN(4))
	for i := range kids {
		kids[i] = random(r, depth-1)
	}
	return app(name, kids...)
}

// wild returns a term that need not be valid.
func wild(r *rand.Rand, depth int) api.Term {
	names := []string{"", "a", "b", "?", "a b", "\xff", strings.Repeat("y", 30)}
	t := api.Term{Kind: r.IntN(6) - 1, Name: names[r.IntN(len(names))], Sort: r.IntN(9) - 1}
	if depth > 1 {
		for range r.IntN(3) {
			t.Kids = append(t.Kids, wild(r, depth-1))
		}
	}
	return t
}

// samples returns valid terms and others, the same ones every time.
func samples(n, depth int) []api.Term {
	r := rand.New(rand.NewPCG(1, 2))
	l := []api.Term{{}, app("f"), {Kind: api.TermApp, Name: "f", Kids: []api.Term{}}}
	for range n {
		l = append(l, random(r, depth), wild(r, depth))
	}
	return l
}
