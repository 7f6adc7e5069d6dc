package knowledge_test

import (
	"testing"

	"sealring/api"
	"sealring/knowledge"
)

// P10.1: Public knows the public atoms, zero() and one(), and nothing else.
func TestPublic(t *testing.T) {
	agents, rest := []int{api.SortAgent, api.SortTag}, []int{api.SortNonce, api.SortKey, api.SortData, api.SortAny}
	names := map[string]bool{
		"e#0": true, "e#9": true, "e#00": true, "e#0123456789": true, "e#5555555555555555555555555555": true,
		"": false, "e": false, "e#": false, "#0": false, "e0": false, "a#0": false, "f#1": false, "E#1": false,
		"e#a": false, "e#0a": false, "e#a0": false, "e#-1": false, "e##1": false, "e#1#1": false, "e# 1": false,
		"e#/": false, "e#:": false, "e#0:": false, "e#٣": false, "ee#1": false, "a": false, "G": false, "gg": false,
		"zero": false, "one": false,
	}
	for name, want := range names {
		for _, sort := range rest {
			if got := knowledge.Public(atom(name, sort)); got != want {
				t.Errorf("%q, %d: %v", name, sort, got)
			}
		}
		for _, sort := range agents {
			if !knowledge.Public(atom(name, sort)) {
				t.Errorf("%q, %d is not public", name, sort)
			}
		}
		for sort := range 7 {
			if knowledge.Public(variable(name, sort)) {
				t.Errorf("?%q, %d is public", name, sort)
			}
		}
	}
	for sort := -1; sort < 8; sort++ {
		want := sort == api.SortData || sort == api.SortAgent || sort == api.SortTag
		if got := knowledge.Public(atom("g", sort)); got != want {
			t.Errorf("g, %d: %v", sort, got)
		}
		if got := knowledge.Public(atom("e#1", sort)); got != (sort >= 0 && sort <= 5) {
			t.Errorf("e#1, %d: %v", sort, got)
		}
	}
}

// P10.1: of an application only the Name and the number of kids count, of an
// atom only the Name and the Sort.
func TestPublicTerms(t *testing.T) {
	a, agent := atom("a", api.SortAny), atom("a", api.SortAgent)
	for what, c := range map[string]struct {
		t    api.Term
		want bool
	}{
		"nothing":              {api.Term{}, false},
		"a kind":               {api.Term{Kind: 7, Name: "g", Sort: api.SortData}, false},
		"a kind of an agent":   {api.Term{Kind: -1, Name: "a", Sort: api.SortAgent}, false},
		"zero":                 {app("zero"), true},
		"one":                  {app("one"), true},
		"zero of a sort":       {api.Term{Kind: api.TermApp, Name: "zero", Sort: api.SortKey}, true},
		"one of no sort":       {api.Term{Kind: api.TermApp, Name: "one", Sort: 9}, true},
		"zero of something":    {app("zero", agent), false},
		"one of something":     {app("one", agent), false},
		"no symbol":            {app(""), false},
		"two":                  {app("two"), false},
		"g":                    {app("g"), false},
		"e#0":                  {app("e#0"), false},
		"a public key":         {app("pk", app("sk", agent)), false},
		"a pair":               {app("pair", agent, agent), false},
		"a key":                {app("sk", agent), false},
		"an agent with kids":   {api.Term{Kind: api.TermAtom, Name: "a", Sort: api.SortAgent, Kids: []api.Term{a}}, true},
		"g with kids":          {api.Term{Kind: api.TermAtom, Name: "g", Sort: api.SortData, Kids: []api.Term{a}}, true},
		"a variable with kids": {api.Term{Kind: api.TermVar, Name: "g", Sort: api.SortData, Kids: []api.Term{a}}, false},
	} {
		if got := knowledge.Public(c.t); got != c.want {
			t.Errorf("%s: %v", what, got)
		}
	}
}
