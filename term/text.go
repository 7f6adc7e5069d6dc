package term

import (
	"strings"

	"sealring/api"
)

// The words of the sorts, from SortAny to SortTag. None is the beginning of
// another one, so that a text begins with one of them at most.
var sortWords = [...]string{"any", "agent", "nonce", "key", "data", "tag"}

// Format returns the text of a valid term.
func Format(t api.Term) (string, api.Errno) {
	if e := Valid(t); e != api.OK {
		return "", e
	}
	var b strings.Builder
	write(&b, &t)
	return b.String(), api.OK
}

// write writes the text of a valid term.
func write(b *strings.Builder, t *api.Term) {
	if t.Kind == api.TermVar {
		b.WriteString("?")
	}
	b.WriteString(t.Name)
	switch {
	case t.Kind == api.TermApp:
		writeKids(b, t.Kids)
	case t.Kind == api.TermAtom || t.Sort != api.SortAny:
		b.WriteString(":")
		b.WriteString(sortWords[t.Sort])
	}
}

func writeKids(b *strings.Builder, kids []api.Term) {
	b.WriteString("(")
	for i := range kids {
		if i > 0 {
			b.WriteString(", ")
		}
		write(b, &kids[i])
	}
	b.WriteString(")")
}

// Parse returns the valid term with the text s.
func Parse(s string) (api.Term, api.Errno) {
	p := parser{rest: s}
	for !p.whole {
		if !p.next() {
			return api.Term{}, api.ErrSyntax
		}
	}
	switch {
	case p.rest != "":
		return api.Term{}, api.ErrSyntax
	case p.large:
		return api.Term{}, api.ErrTooLarge
	}
	return p.root, api.OK
}

// A parser keeps the applications whose kids are being read on a stack of its
// own: a text may be nested deeper than calls can be, and still it has to be
// read to its end, because a wrong text counts more than a large term.
type parser struct {
	rest  string     // what has not been read
	open  []api.Term // the applications, the outermost one first
	nodes int
	large bool     // a limit is exceeded
	whole bool     // the term is complete
	root  api.Term // the complete term
}

// next reads the beginning of a subterm and, if it ends there, what ends with
// it. It returns false if this is no text of a term.
func (p *parser) next() bool {
	t, ok := p.node()
	if !ok {
		return false
	}
	p.nodes++
	if p.nodes > api.MaxNodes || len(p.open) >= api.MaxDepth {
		p.large = true
	}
	if t.Kind == api.TermApp && !p.take(")") {
		p.open = append(p.open, t)
		return true
	}
	return p.end(t)
}

// end puts a subterm that has been read into the application around it, and
// so on as long as these end there, too.
func (p *parser) end(t api.Term) bool {
	for len(p.open) > 0 {
		last := len(p.open) - 1
		around := &p.open[last]
		around.Kids = append(around.Kids, t)
		if len(around.Kids) > api.MaxKids {
			p.large = true
		}
		if p.take(", ") {
			return true
		}
		if !p.take(")") {
			return false
		}
		t = *around
		p.open = p.open[:last]
	}
	p.root, p.whole = t, true
	return true
}

// node reads a variable, an atom, or the beginning of an application, up to
// its bracket.
func (p *parser) node() (api.Term, bool) {
	variable := p.take("?")
	name := p.rest[:nameLength(p.rest)]
	if !isName(name) {
		return api.Term{}, false
	}
	p.rest = p.rest[len(name):]
	switch {
	case variable:
		sort, ok := p.variableSort()
		return api.Term{Kind: api.TermVar, Name: name, Sort: sort}, ok
	case p.take("("):
		return api.Term{Kind: api.TermApp, Name: name}, true
	case !p.take(":"):
		return api.Term{}, false
	}
	sort, ok := p.sort()
	return api.Term{Kind: api.TermAtom, Name: name, Sort: sort}, ok
}

// variableSort reads what stands behind the name of a variable: nothing for
// SortAny, whose word would make a second text of the same variable.
func (p *parser) variableSort() (int, bool) {
	if !p.take(":") {
		return api.SortAny, true
	}
	sort, ok := p.sort()
	return sort, ok && sort != api.SortAny
}

// sort reads the word of a sort.
func (p *parser) sort() (int, bool) {
	for i, word := range sortWords {
		if p.take(word) {
			return i, true
		}
	}
	return 0, false
}

// take reads a word if it is what follows.
func (p *parser) take(word string) bool {
	if !strings.HasPrefix(p.rest, word) {
		return false
	}
	p.rest = p.rest[len(word):]
	return true
}
