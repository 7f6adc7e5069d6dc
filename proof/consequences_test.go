package proof_test

import (
	"math/rand/v2"
	"slices"
	"testing"

	"sealring/api"
	"sealring/knowledge"
	"sealring/proof"
)

// P11.2: the conclusion of a derivation that is right and local is derivable,
// also of one in which something has been changed.
func TestLocalConclusionsAreDerivable(t *testing.T) {
	r := rand.New(rand.NewPCG(8, 8))
	found := 0
	for range 12000 {
		c := randomDerived(r)
		l := spoiled(r, c)
		l = l[:1+r.IntN(len(l))]
		if !proof.Local(c.k, l) {
			continue
		}
		found++
		if is, e := knowledge.Derivable(c.k, last(l)); !is || e != api.OK {
			t.Fatalf("%s\n%s%v, %v", texts(c.k), lines(l), is, e)
		}
	}
	if found < 2000 {
		t.Errorf("%d cases only", found)
	}
}

// P11.2: Join puts a derivation of u from K, followed by t, behind one of t
// from K.
func TestJoinDerives(t *testing.T) {
	r := rand.New(rand.NewPCG(9, 9))
	used := 0
	for range 8000 {
		c := randomDerived(r)
		kind := pick(r, kinds)
		further := append(slices.Clone(c.k), last(c.l))
		x := randomGoal(r, kind.symbols, further)
		if r.IntN(2) == 0 {
			x = app("pair", x, last(c.l))
		}
		m, e := proof.Build(further, x)
		if e != api.OK {
			continue
		}
		if r.IntN(2) == 0 {
			// t may be given although it is in K.
			m = append([]api.Deduction{{Rule: api.ByGiven, N: len(c.k), Term: last(c.l)}}, shifted(m)...)
		}
		if !proof.Check(further, m, x) {
			t.Fatalf("%s\n%s", texts(further), lines(m))
		}
		l, e := proof.Join(c.l, m)
		if e != api.OK || !proof.Check(c.k, l, x) {
			t.Fatalf("%s\n%sand\n%s%v\n%s", texts(c.k), lines(c.l), lines(m), e, lines(l))
		}
		trimmed := proof.Trim(l)
		if !proof.Check(c.k, trimmed, x) {
			t.Fatalf("%s\n%strimmed\n%s", texts(c.k), lines(l), lines(trimmed))
		}
		if len(m) > 1 && slices.Contains(proof.Uses(m), len(c.k)) {
			used++
		}
	}
	if used < 2000 {
		t.Errorf("%d cases only", used)
	}
}

// shifted returns steps that stand behind another one.
func shifted(l []api.Deduction) []api.Deduction {
	l = slices.Clone(l)
	for i := range l {
		l[i].Args = slices.Clone(l[i].Args)
		for j := range l[i].Args {
			l[i].Args[j]++
		}
	}
	return l
}

// padded returns a derivation with the same conclusion, with steps that are not
// needed in it.
func padded(r *rand.Rand, l []api.Deduction) []api.Deduction {
	var out []api.Deduction
	index := make([]int, len(l))
	for i, d := range l {
		if r.IntN(2) == 0 && len(out) > 0 {
			a := r.IntN(len(out))
			out = append(out, api.Deduction{Rule: api.BySum, Args: []int{a}, Term: out[a].Term})
		}
		d.Args = slices.Clone(d.Args)
		for j, a := range d.Args {
			d.Args[j] = index[a]
		}
		index[i] = len(out)
		out = append(out, d)
	}
	return out
}

// P11.2: Trim keeps derivations right and local, with their conclusions, and
// leaves nothing to be left out; Steps and Uses become no more.
func TestTrimKeeps(t *testing.T) {
	r := rand.New(rand.NewPCG(10, 10))
	shorter := 0
	for range 8000 {
		c := randomDerived(r)
		l := padded(r, c.l)
		if !proof.Check(c.k, l, last(l)) || !proof.Local(c.k, l) {
			t.Fatalf("%s\n%s", texts(c.k), lines(l))
		}
		got := proof.Trim(l)
		if !proof.Check(c.k, got, last(l)) || !proof.Local(c.k, got) || !sameSteps(got, proof.Trim(got)) || len(got) > len(l) {
			t.Fatalf("%s\n%strimmed\n%s", texts(c.k), lines(l), lines(got))
		}
		more := slices.ContainsFunc(proof.Uses(got), func(n int) bool { return !slices.Contains(proof.Uses(l), n) })
		if more || proof.Steps(got) > proof.Steps(l) {
			t.Fatalf("%s\n%sthen\n%s", texts(c.k), lines(l), lines(got))
		}
		if len(got) < len(l) {
			shorter++
		}
	}
	if shorter < 4000 {
		t.Errorf("%d cases only", shorter)
	}
}

// P11.2: Parse leads from the text of a derivation to it.
func TestTextsOfDerivations(t *testing.T) {
	r := rand.New(rand.NewPCG(11, 11))
	for range 5000 {
		c := randomDerived(r)
		s, e := proof.Format(c.l)
		l, f := proof.Parse(s)
		if e != api.OK || f != api.OK || !sameSteps(l, c.l) || !proof.Check(c.k, l, last(c.l)) {
			t.Fatalf("%s\n%s%v, %v", texts(c.k), s, e, f)
		}
	}
}
