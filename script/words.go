package script

import (
	"strings"

	"wayfarer/api"
	"wayfarer/code"
	"wayfarer/graph"
	"wayfarer/ints"
)

// words is what is left of a line, whether there is a word in it (an empty
// one, too), and whether one that was taken was wrong.
type words struct {
	rest  string
	more  bool
	wrong bool
}

func wordsOf(line string) *words {
	return &words{rest: line, more: true}
}

// next takes a word. Where none is left it is the empty one, which is wrong
// wherever a word is asked for.
func (w *words) next() string {
	word, rest, more := strings.Cut(w.rest, blank)
	w.rest, w.more = rest, more
	return word
}

// form takes the words that tell what form the line has.
func (w *words) form() string {
	word := w.next()
	if word == set {
		return word + blank + w.next()
	}
	return word
}

func (w *words) number() int {
	n, e := ints.Parse(w.next())
	w.want(e == api.OK && n >= 0)
	return n
}

func (w *words) name() string {
	word := w.next()
	w.want(graph.Name(word))
	return word
}

// value takes all that is left.
func (w *words) value() api.Value {
	v, e := code.Parse(w.rest)
	w.want(e == api.OK && graph.Plain(v))
	w.rest, w.more = "", false
	return v
}

func (w *words) want(ok bool) {
	w.wrong = w.wrong || !ok
}

// fit tells whether the words were those of the form, and no others are left.
func (w *words) fit() bool {
	return !w.wrong && !w.more
}
