package subst_test

import (
	"math/rand/v2"
	"strings"
	"testing"

	"sealring/api"
	"sealring/subst"
	"sealring/term"
)

// P2.1: Rename puts the suffix behind the names of variables only.
func TestRename(t *testing.T) {
	for _, c := range []struct{ t, suffix, want string }{
		{"f(?x, a:any, g(?n:nonce))", "#2", "f(?x#2, a:any, g(?n#2:nonce))"},
		{"?x", "", "?x"},
		{"?x", "azAZ09_#", "?xazAZ09_#"},
		{"?x", "0", "?x0"},
		{"?x#1", "#1", "?x#1#1"},
		{"f(?x, ?x, ?xx)", "x", "f(?xx, ?xx, ?xxx)"},
		{"x(x:any, ?x)", "_", "x(x:any, ?x_)"},
		{"?x", strings.Repeat("s", 23), "?x" + strings.Repeat("s", 23)},
		{"f(a:any)", strings.Repeat("s", 24), "f(a:any)"},
		{"f()", strings.Repeat("s", 1000), "f()"},
	} {
		u, e := subst.Rename(must(t, c.t), c.suffix)
		if e != api.OK || !same(u, must(t, c.want)) {
			t.Errorf("%s, %q: %s, %v", c.t, c.suffix, show(u), e)
		}
	}
}

func checkRenameError(t *testing.T, x api.Term, suffix string, want api.Errno) {
	t.Helper()
	if u, e := subst.Rename(x, suffix); e != want || !same(u, api.Term{}) {
		t.Errorf("%s, %q: %s, %v, not %v", show(x), suffix, show(u), e, want)
	}
}

// P2.1: the errors of Rename, in order.
func TestRenameErrors(t *testing.T) {
	x, a := variable("x", api.SortAny), atom("a", api.SortAny)
	long := strings.Repeat("s", 24)
	for _, c := range invalid() {
		checkRenameError(t, c.t, "#1", c.want)
		checkRenameError(t, c.t, "-", c.want)
		checkRenameError(t, c.t, long, c.want)
	}
	for b := range 256 {
		suffix, u := string([]byte{byte(b)}), app("f", x, a)
		letter := 'a' <= b && b <= 'z' || 'A' <= b && b <= 'Z'
		if letter || '0' <= b && b <= '9' || b == '_' || b == '#' {
			if v, e := subst.Rename(u, suffix); e != api.OK || !same(v, app("f", variable("x"+suffix, api.SortAny), a)) {
				t.Errorf("%q: %s, %v", suffix, show(v), e)
			}
			continue
		}
		checkRenameError(t, u, suffix, api.ErrSyntax)
		checkRenameError(t, a, suffix, api.ErrSyntax)
		checkRenameError(t, u, "a"+suffix+"b", api.ErrSyntax)
		checkRenameError(t, u, suffix+long, api.ErrSyntax)
		checkRenameError(t, u, long+suffix, api.ErrSyntax)
	}
	checkRenameError(t, x, long, api.ErrTooLarge)
	checkRenameError(t, app("f", a, x, variable("xx", api.SortAny)), long[1:], api.ErrTooLarge)
	checkRenameError(t, app("f", app("g", variable("xx", api.SortKey)), x), long[1:], api.ErrTooLarge)
	checkRenameError(t, variable(long, api.SortTag), "s", api.ErrTooLarge)
}

// P2.2: renamed terms differ from the old ones in names only, and as a
// substitution by the renamed variables would have it.
func TestRenameEffect(t *testing.T) {
	r := rand.New(rand.NewPCG(15, 16))
	for range 1000 {
		x := random(r, 4)
		u, e := subst.Rename(x, "#7")
		var s []api.Binding
		for _, v := range term.Vars(x) {
			s = append(s, bind(v, variable(v.Name+"#7", v.Sort)))
		}
		if e != api.OK || !same(u, replace(s, x)) || term.Valid(u) != api.OK {
			t.Fatalf("%s: %s, %v", show(x), show(u), e)
		}
	}
}

// P2.1: Rename returns new memory, and does not change its argument.
func TestRenameSharesNothing(t *testing.T) {
	x := must(t, "f(?x, g(?x, a:any), g(?x, a:any))")
	before := show(x)
	u, e := subst.Rename(x, "#1")
	v, f := subst.Rename(x, "")
	if e != api.OK || f != api.OK || !same(v, x) || show(x) != before {
		t.Errorf("%s, %v, %s, %v, %s", show(u), e, show(v), f, show(x))
	}
	apart(t, "Rename", x, u, v)
}

// P2.1: the texts of substitutions.
func TestTexts(t *testing.T) {
	full := many("x", 200, app("f"))
	var long []string
	for _, b := range full {
		long = append(long, "?"+b.Var.Name+" = f()")
	}
	for s, want := range map[string][]api.Binding{
		"{}":                                 nil,
		"{?x = f(?y, a:any)}":                binds(t, "?x", "f(?y, a:any)"),
		"{?x = ?y, ?y = ?x}":                 binds(t, "?x", "?y", "?y", "?x"),
		"{?n:nonce = a:nonce}":               binds(t, "?n:nonce", "a:nonce"),
		"{?x = f(g(?y, ?z), h()), ?y = f()}": binds(t, "?x", "f(g(?y, ?z), h())", "?y", "f()"),
		"{?a = f(a:any, b:any), ?a:tag = t:tag, ?b = f(f(a:any), b:any)}": binds(t, "?a", "f(a:any, b:any)", "?a:tag", "t:tag", "?b", "f(f(a:any), b:any)"),
		"{" + strings.Join(long, ", ") + "}":                              full,
	} {
		if text, e := subst.Format(want); text != s || e != api.OK {
			t.Errorf("Format: %q, %v, not %q", text, e, s)
		}
		if l, e := subst.Parse(s); e != api.OK || !sameBindings(l, want) {
			t.Errorf("Parse(%q): %s, %v", s, show(l), e)
		}
	}
	if text, e := subst.Format([]api.Binding{}); text != "{}" || e != api.OK {
		t.Errorf("an empty list: %q, %v", text, e)
	}
}

// P2.1: Format has the errors of Valid, and no text with them.
func TestFormatErrors(t *testing.T) {
	for what, c := range wrong(t) {
		if text, e := subst.Format(c.s); text != "" || e != c.want {
			t.Errorf("%s: %q, %v, not %v", what, text, e, c.want)
		}
	}
}

func checkParseError(t *testing.T, s string, want api.Errno) {
	t.Helper()
	if l, e := subst.Parse(s); e != want || len(l) != 0 {
		t.Errorf("Parse(%.80q): %s, %v, not %v", s, show(l), e, want)
	}
}

// P2.1: what is no text of bindings is ErrSyntax.
func TestParseSyntax(t *testing.T) {
	for _, s := range []string{
		"", "{", "}", "}{", "{{", "}}", "{}}", "{{}", "{} ", " {}", "{ }", "{,}", "{, }", "{=}", "{ = }", "[]", "{}{}", "\xff{}", "{}\x00", "{\n}",
		"?x = a:any", "{?x = a:any", "?x = a:any}", "{?x = a:any} ", " {?x = a:any}", "{?x = a:any}}", "{{?x = a:any}",
		"{?x}", "{?x=a:any}", "{?x= a:any}", "{?x =a:any}", "{?x  = a:any}", "{?x =  a:any}", "{?x\t= a:any}", "{ ?x = a:any}", "{?x = a:any }", "{?x == a:any}", "{?x = = a:any}",
		"{?x = }", "{ = a:any}", "{?x = a}", "{x = a:any}", "{?x:any = a:any}", "{?x = a:any, }", "{, ?x = a:any}", "{?x = a:any,}", "{?x = a:any, , ?y = a:any}",
		"{?x = a:any,?y = a:any}", "{?x = a:any ?y = a:any}", "{?x = a:any,  ?y = a:any}", "{?x = a:any , ?y = a:any}", "{?x = a:any; ?y = a:any}", "{?x = a:any, ?y}", "{?x, ?y = a:any}",
		"{?x = f(?y = a:any)}", "{?x = f(a:any, ?y = a:any}", "{?x = f(a:any, ?y = a:any)}", "{?x = f(), ?y = f(a:any, b:any}", "{?x = f()), ?y = f()}", "{?x = f(, ?y = f()}", "{?x = ), ?y = (}",
		"{?x = a:any = b:any}", "{?x = a:any = b:any, ?y = a:any}", "{?x = {}}", "{?1 = a:any}", "{?x = f(a:any,b:any)}",
	} {
		checkParseError(t, s, api.ErrSyntax)
	}
}

// P2.1: the errors of Parse, in order: pieces without their sign, those of
// terms, that of the substitution.
func TestParseErrors(t *testing.T) {
	deep := strings.Repeat("g(", 40) + "a:any" + strings.Repeat(")", 40)
	var many []string
	for _, name := range names("x", 201) {
		many = append(many, "?"+name+" = a:any")
	}
	for s, want := range map[string]api.Errno{
		"{?x = " + deep + "}":                              api.ErrTooLarge,
		"{" + deep + " = ?x}":                              api.ErrTooLarge,
		"{?x = " + deep + ", ?y = a}":                      api.ErrTooLarge,
		"{?x = a, ?y = " + deep + "}":                      api.ErrSyntax,
		"{" + deep + " = a}":                               api.ErrTooLarge,
		"{x = " + deep + "}":                               api.ErrSyntax,
		"{?x = " + deep + ", ?y}":                          api.ErrSyntax,
		"{?x = " + deep + ", ?y=a:any}":                    api.ErrSyntax,
		"{?x = " + deep + ", ?y = a), z}":                  api.ErrTooLarge,
		"{?x = " + deep + ", ?y = f(a, z}":                 api.ErrTooLarge,
		"{?x = " + deep + "), z}":                          api.ErrSyntax,
		"{" + deep + " = a = b}":                           api.ErrTooLarge,
		"{?x = " + deep + " = a:any}":                      api.ErrSyntax,
		"{?y = a:any, ?x = a:any}":                         api.ErrExists,
		"{?x = a:any, ?x = a:any}":                         api.ErrExists,
		"{?x = ?x}":                                        api.ErrInvalid,
		"{a:any = ?x}":                                     api.ErrInvalid,
		"{f(a:any, b:any) = ?x, ?y = a:any}":               api.ErrInvalid,
		"{?n:nonce = f()}":                                 api.ErrType,
		"{?n:nonce = a:any}":                               api.ErrType,
		"{?x = ?x, ?y = " + deep + "}":                     api.ErrTooLarge,
		"{?x = ?x, ?y = a}":                                api.ErrSyntax,
		"{?x = ?x, ?n:nonce = a:any}":                      api.ErrInvalid,
		"{?n:nonce = a:any, ?x = ?x}":                      api.ErrType,
		"{" + strings.Join(many, ", ") + "}":               api.ErrTooLarge,
		"{?x = ?x, " + strings.Join(many, ", ") + "}":      api.ErrTooLarge,
		"{" + strings.Join(many, ", ") + ", ?y = a}":       api.ErrSyntax,
		"{" + strings.Join(many, ", ") + ", ?y = a:any, }": api.ErrSyntax,
	} {
		checkParseError(t, s, want)
	}
}

// P2.1: Parse ends with the right error however long a text is.
func TestParseHugeTexts(t *testing.T) {
	n := 200_000
	checkParseError(t, "{"+strings.Repeat("?x = ", n)+"}", api.ErrSyntax)
	checkParseError(t, "{"+strings.Repeat(", ", n)+"}", api.ErrSyntax)
	checkParseError(t, "{"+strings.Repeat("?x = a:any, ", n)+"}", api.ErrSyntax)
	checkParseError(t, "{"+strings.Repeat("?x = a:any, ", n)+"?x = a:any}", api.ErrTooLarge)
	checkParseError(t, "{?x = "+strings.Repeat("g(", n)+strings.Repeat(")", n)+"}", api.ErrTooLarge)
	checkParseError(t, "{?x = "+strings.Repeat("g(", n)+"}", api.ErrSyntax)
}

// P2.2: Parse leads from the text of a substitution to the substitution.
func TestParseReadsTexts(t *testing.T) {
	r := rand.New(rand.NewPCG(17, 18))
	for range 2000 {
		s := randomBindings(r, 6, 4)
		text, e := subst.Format(s)
		l, f := subst.Parse(text)
		if e != api.OK || f != api.OK || !sameBindings(s, l) {
			t.Fatalf("%s: %q, %v, %s, %v", show(s), text, e, show(l), f)
		}
	}
}

// checkAccepted checks that a text, if it is accepted, is that of its result.
func checkAccepted(t *testing.T, s string) bool {
	t.Helper()
	l, e := subst.Parse(s)
	if e != api.OK {
		if len(l) != 0 {
			t.Fatalf("Parse(%q): %s, %v", s, show(l), e)
		}
		return false
	}
	if again, f := subst.Format(l); again != s || f != api.OK {
		t.Fatalf("Parse(%q): the result has the text %q, %v", s, again, f)
	}
	return true
}

// P2.2: a text that Parse accepts is that of its result; here for all texts of
// at most five of the words of which texts consist, between brackets.
func TestAcceptedTexts(t *testing.T) {
	words := []string{"?x", "?y:key", "a:any", "f(", ")", " = ", ", ", ",", " ", "=", "{", "}"}
	texts, accepted := []string{""}, 0
	for range 5 {
		var longer []string
		for _, s := range texts {
			for _, w := range words {
				longer = append(longer, s+w)
			}
		}
		for _, s := range longer {
			if checkAccepted(t, "{"+s+"}") {
				accepted++
			}
		}
		texts = longer
	}
	if accepted == 0 {
		t.Error("no text is accepted")
	}
}

// P2.2: the same for texts in which one byte was changed, left out or put in.
func TestAcceptedChanges(t *testing.T) {
	s := "{?x = f(g(?x:key), h()), ?y:key = ab#1:key, ?z = ?y}"
	if !checkAccepted(t, s) {
		t.Errorf("%q is not accepted", s)
	}
	for i := range len(s) {
		checkAccepted(t, s[:i])
		checkAccepted(t, s[i:])
		checkAccepted(t, s[:i]+s[i+1:])
		for b := range 256 {
			checkAccepted(t, s[:i]+string([]byte{byte(b)})+s[i:])
			checkAccepted(t, s[:i]+string([]byte{byte(b)})+s[i+1:])
		}
	}
}

// P2.1: equal arguments give equal results that share no memory, and Format
// leaves its argument as it is.
func TestTextsShareNothing(t *testing.T) {
	s := "{?x = f(g(a:any), g(a:any)), ?y = f(g(a:any), g(a:any))}"
	l, e := subst.Parse(s)
	m, f := subst.Parse(s)
	if e != api.OK || f != api.OK || !sameBindings(l, m) {
		t.Errorf("%s, %v, %s, %v", show(l), e, show(m), f)
	}
	apart(t, "Parse", append(sides(l), sides(m)...)...)
	before := show(l)
	if _, e := subst.Format(l); e != api.OK || show(l) != before {
		t.Errorf("changed: %s, %v", show(l), e)
	}
}
