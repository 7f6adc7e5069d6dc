package refute

import (
	"strconv"
	"strings"

	"sealring/api"
	"sealring/term"
)

// A writer builds a text with terms. It keeps the error of the first one that
// has none.
type writer struct {
	strings.Builder
	failed api.Errno
}

// Format returns the text of a refusal.
func Format(r api.Refusal) (string, api.Errno) {
	var w writer
	for i := range r.Known {
		w.writeTerm("known ", &r.Known[i])
		w.WriteString("\n")
	}
	for i := range r.Sums {
		w.writeSum(&r.Sums[i])
	}
	for i := range r.Powers {
		w.writePower(&r.Powers[i])
	}
	if w.failed != api.OK {
		return "", w.failed
	}
	return w.String(), api.OK
}

// writeTerm writes a term behind other words.
func (w *writer) writeTerm(words string, t *api.Term) {
	if w.failed != api.OK {
		return
	}
	text, e := term.Format(*t)
	w.failed = e
	w.WriteString(words)
	w.WriteString(text)
}

func (w *writer) writeSum(n *api.NoSum) {
	w.writeTerm("sum ", &n.Term)
	for i := range n.Odd {
		w.writeTerm(" | ", &n.Odd[i])
	}
	w.WriteString("\n")
}

func (w *writer) writePower(n *api.NoPower) {
	w.writeTerm("power ", &n.Term)
	w.writeTerm(" | ", &n.Base)
	w.WriteString(" mod ")
	w.WriteString(strconv.Itoa(n.Shows.Mod))
	for i := range n.Shows.Values {
		p := &n.Shows.Values[i]
		w.writeTerm(" | ", &p.Term)
		w.WriteString(" ")
		w.WriteString(strconv.Itoa(p.N))
	}
	w.WriteString("\n")
}
