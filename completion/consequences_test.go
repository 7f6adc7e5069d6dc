package completion_test

import (
	"math/rand/v2"
	"slices"
	"testing"

	"sealring/api"
	"sealring/completion"
	"sealring/order"
	"sealring/rewrite"
	"sealring/term"
)

// P7.2: if a completion is right, two terms that are connected by steps with
// the equations have the same normal form, with enough fuel.
func TestConnectedTermsHaveOneNormalForm(t *testing.T) {
	r := rand.New(rand.NewPCG(17, 18))
	connected, changed := 0, 0
	for range 3000 {
		l := few.equations(r, 3)
		c, e := completion.Complete(l, names, 100)
		if e != api.OK || len(l) == 0 {
			continue
		}
		if !completion.Check(l, names, c) {
			t.Fatalf("%s: %v", showRules(l), c)
		}
		for range 5 {
			x := few.instanceIn(r, l, 3)
			y := x
			for range 1 + r.IntN(5) {
				if s, found := randomStep(r, l, y); found && term.Size(s.Term) < 100 {
					y = s.Term
				}
			}
			yes, e := completion.Decide(c, x, y, 1000)
			if e != api.OK || !yes {
				t.Fatalf("%s: %s, %s: %v, %v", showRules(l), text(x), text(y), yes, e)
			}
			connected++
			if !same(x, y) {
				changed++
			}
		}
	}
	if connected < 5000 || changed < 1000 {
		t.Errorf("%d and %d cases only", connected, changed)
	}
}

// P7.2: the other way round, terms with the same normal form are connected by
// the proofs of the rules; here the rules lead from both to this form.
func TestEqualTermsAreConnected(t *testing.T) {
	l := rules(t, "f(e(), ?x)", "?x", "f(i(?x), ?x)", "e()", "f(f(?x, ?y), ?z)", "f(?x, f(?y, ?z))")
	c, e := completion.Complete(l, []string{"e", "f", "i"}, 100)
	if e != api.OK {
		t.Fatal(e)
	}
	for i, proof := range c.Proofs {
		at := c.Rules[i].Left
		for k, s := range proof {
			if !refStep(l, at, s) {
				t.Fatalf("rule %d, step %d: %s to %s", i, k, text(at), text(s.Term))
			}
			at = s.Term
		}
		if !same(at, c.Rules[i].Right) {
			t.Fatalf("rule %d: %s", i, text(at))
		}
	}
}

// P7.2: rules without overlaps are confluent: there is nothing to be joined,
// and if they decrease, every term has one normal form only.
func TestRulesWithoutOverlaps(t *testing.T) {
	r := rand.New(rand.NewPCG(19, 20))
	found, ways := 0, 0
	for range 20000 {
		l := few.rules(r, 4)
		pairs, e := completion.Pairs(l)
		if e != api.OK || len(pairs) > 0 || len(l) == 0 {
			continue
		}
		joins, i, e := completion.Confluent(l, 0)
		if e != api.OK || i != -1 || len(joins) != 0 || !completion.CheckConfluent(l, nil) {
			t.Fatalf("%s: %v, %d, %v", showRules(l), joins, i, e)
		}
		found++
		if _, decrease := order.Decreasing(names, l); !decrease {
			continue
		}
		x := app("k", few.instanceIn(r, l, 2), few.instanceIn(r, l, 3), few.instanceIn(r, l, 3), few.instanceIn(r, l, 4))
		want, _, e := rewrite.Normal(l, x, 1000)
		if e != api.OK {
			continue
		}
		y := x
		for {
			all := rewrite.Redexes(l, y)
			if len(all) == 0 {
				break
			}
			if len(all) > 1 {
				ways++
			}
			if y, e = rewrite.Apply(l, y, pick(r, all)); e != api.OK {
				t.Fatalf("%s, %s: %v", showRules(l), text(x), e)
			}
		}
		if !same(y, want) {
			t.Fatalf("%s: %s leads to %s and %s", showRules(l), text(x), text(y), text(want))
		}
	}
	if found < 5000 || ways < 300 {
		t.Errorf("%d and %d cases only", found, ways)
	}
}

// P7.2: in rules of a right completion, too, it does not matter which redex is
// applied.
func TestCompletionsAreConfluent(t *testing.T) {
	r := rand.New(rand.NewPCG(21, 22))
	l := rules(t, "f(e(), ?x)", "?x", "f(i(?x), ?x)", "e()", "f(f(?x, ?y), ?z)", "f(?x, f(?y, ?z))")
	c, e := completion.Complete(l, []string{"e", "f", "i"}, 100)
	if e != api.OK {
		t.Fatal(e)
	}
	for range 300 {
		x := groupTerm(r, 5)
		want, _, e := rewrite.Normal(c.Rules, x, 1000)
		if e != api.OK {
			t.Fatalf("%s: %v", text(x), e)
		}
		for all := rewrite.Redexes(c.Rules, x); len(all) > 0; all = rewrite.Redexes(c.Rules, x) {
			if x, e = rewrite.Apply(c.Rules, x, pick(r, all)); e != api.OK {
				t.Fatal(e)
			}
		}
		if !same(x, want) {
			t.Fatalf("%s, not %s", text(x), text(want))
		}
		if word := freeWord(x); !slices.Equal(word, reduced(word)) {
			t.Fatalf("%s has the word %v", text(x), word)
		}
	}
}

// groupTerm returns a term with the symbols of groups.
func groupTerm(r *rand.Rand, depth int) api.Term {
	switch kind := r.IntN(6); {
	case kind == 0:
		return app("e")
	case kind == 1 || depth == 1:
		return atom(pick(r, []string{"a", "b"}), 0)
	case kind < 4:
		return app("i", groupTerm(r, depth-1))
	}
	return app("f", groupTerm(r, depth-1), groupTerm(r, depth-1))
}

// freeWord returns the element of the free group for which a term stands:
// names, with a minus sign for inverses.
func freeWord(t api.Term) []string {
	switch {
	case t.Kind == api.TermAtom:
		return []string{t.Name}
	case t.Name == "f":
		return slices.Concat(freeWord(t.Kids[0]), freeWord(t.Kids[1]))
	case t.Name == "i":
		var word []string
		for _, letter := range slices.Backward(freeWord(t.Kids[0])) {
			word = append(word, inverse(letter))
		}
		return word
	}
	return nil
}

func inverse(letter string) string {
	if letter[0] == '-' {
		return letter[1:]
	}
	return "-" + letter
}

// reduced returns a word without letters beside their inverses.
func reduced(word []string) []string {
	var l []string
	for _, letter := range word {
		if len(l) > 0 && l[len(l)-1] == inverse(letter) {
			l = l[:len(l)-1]
		} else {
			l = append(l, letter)
		}
	}
	return l
}

// P7.2: the completed theory of groups decides the equality of words in free
// groups.
func TestGroupsAreDecided(t *testing.T) {
	r := rand.New(rand.NewPCG(23, 24))
	l := rules(t, "f(e(), ?x)", "?x", "f(i(?x), ?x)", "e()", "f(f(?x, ?y), ?z)", "f(?x, f(?y, ?z))")
	c, e := completion.Complete(l, []string{"e", "f", "i"}, 100)
	if e != api.OK {
		t.Fatal(e)
	}
	seen := map[bool]int{}
	for range 3000 {
		x, y := groupTerm(r, 4), groupTerm(r, 3)
		if r.IntN(2) == 0 {
			z := groupTerm(r, 3)
			y = app("f", app("f", x, z), app("i", z))
		}
		want := slices.Equal(reduced(freeWord(x)), reduced(freeWord(y)))
		yes, e := completion.Decide(c, x, y, 1000)
		if e != api.OK || yes != want {
			t.Fatalf("%s, %s: %v, %v, not %v", text(x), text(y), yes, e, want)
		}
		seen[want]++
	}
	checkSeen(t, seen, 500, true, false)
}
