package solve

import (
	"strconv"
	"strings"

	"savant/coerce"
	"savant/types"
)

// Print is p's text.
func (p Problem) Print() string {
	var w writer
	w.problem(p)
	return strings.Join(w.words, " ")
}

// writer has what is written so far, in pieces between which stand blanks.
type writer struct{ words []string }

func (w *writer) word(s string) {
	w.words = append(w.words, s)
}

// glue writes a sign that has no blank ahead of it.
func (w *writer) glue(sign string) {
	w.words[len(w.words)-1] += sign
}

// between writes two brackets, and what write writes between them.
func (w *writer) between(begin, end string, write func()) {
	w.word(begin)
	before := len(w.words)
	write()
	if len(w.words) == before {
		w.glue(end)
	} else {
		w.word(end)
	}
}

func (w *writer) problem(p Problem) {
	for _, n := range p.New {
		w.word("?" + strconv.Itoa(n))
		w.glue(";")
	}
	for _, q := range p.Wants {
		w.sides(q.L, q.R)
		w.glue(";")
	}
	for _, in := range p.Inner {
		w.between("[", "]", func() { w.brackets(in.Names, in.Givens) })
		w.between("{", "}", func() { w.problem(in.P) })
	}
}

func (w *writer) brackets(names []string, givens []coerce.Given) {
	for _, name := range names {
		w.word(name)
	}
	for _, g := range givens {
		w.glue(",")
		w.word(g.Name)
		w.word(":")
		w.sides(g.L, g.R)
	}
}

func (w *writer) sides(l, r types.Type) {
	w.word(l.Print())
	w.word("~")
	w.word(r.Print())
}
