package theory_test

import (
	"slices"
	"testing"

	"sealring/api"
	"sealring/rewrite"
	"sealring/term"
	"sealring/theory"
)

// P9.1: the symbols are those of the table, in its order.
func TestSymbols(t *testing.T) {
	names := []string{
		"pair", "enc", "aenc", "pk", "sign", "hash", "xor", "zero", "exp", "mul", "inv", "one",
		"sk", "shk", "new",
		"fst", "snd", "dec", "adec", "open", "read",
	}
	l := theory.Symbols()
	if len(l) != len(names) {
		t.Fatalf("Symbols: %v", l)
	}
	for i, s := range l {
		row := refTable()[names[i]]
		if s != (api.Symbol{Name: names[i], Least: row.least, Most: row.most, Kind: row.kind}) {
			t.Errorf("symbol %d: %+v", i, s)
		}
	}
}

// P9.1: each symbol is valid with its numbers of kids, and with no other ones.
func TestNumbersOfKids(t *testing.T) {
	for _, s := range theory.Symbols() {
		for n := range api.MaxKids + 1 {
			x := app(s.Name, slices.Repeat([]api.Term{atom("a", api.SortAgent)}, n)...)
			want := api.OK
			if n < s.Least || n > s.Most {
				want = api.ErrArity
			}
			if e := theory.Valid(x); e != want {
				t.Errorf("%s with %d kids: %v", s.Name, n, e)
			}
		}
	}
}

// P9.1: the rules are those of the document, in its order, and right as rules.
func TestRules(t *testing.T) {
	l := theory.Rules()
	same := slices.EqualFunc(l, refRules(), func(r, s api.Rule) bool {
		return term.Compare(r.Left, s.Left) == 0 && term.Compare(r.Right, s.Right) == 0
	})
	if !same {
		t.Errorf("Rules: %s", show(l))
	}
	if e := rewrite.Valid(l); e != api.OK {
		t.Errorf("Valid: %v", e)
	}
	for _, r := range l {
		if theory.Valid(r.Left) != api.OK || theory.Valid(r.Right) != api.OK || !theory.Equal(r.Left, r.Right) {
			t.Errorf("%s, %s", text(r.Left), text(r.Right))
		}
	}
}

// P9.1: tables are new each time, and their parts share no memory.
func TestTablesAreNew(t *testing.T) {
	s := theory.Symbols()
	clear(s[:cap(s)])
	if again := theory.Symbols(); again[0].Name != "pair" || again[20].Name != "read" {
		t.Errorf("Symbols: %v", again)
	}
	var sides []api.Term
	for range 2 {
		for _, r := range theory.Rules() {
			sides = append(sides, r.Left, r.Right)
		}
	}
	apart(t, "Rules", sides...)
	rules := theory.Rules()
	rules[0].Left.Kids[0].Kids[0].Name = "z"
	clear(rules[:cap(rules)])
	if l := theory.Rules(); text(l[0].Left) != "fst(pair(?x, ?y))" || text(l[5].Left) != "read(sign(?x, ?y))" {
		t.Errorf("Rules: %s", show(l))
	}
}
