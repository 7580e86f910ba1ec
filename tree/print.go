package tree

import (
	"strings"

	"wayfarer/api"
	"wayfarer/ints"
)

// Print is the text of l.
func Print(l []api.Call) (string, api.Errno) {
	if e := Check(l); e != api.OK {
		return "", e
	}
	w := &writer{}
	w.chain(whole, l)
	return w.String(), api.OK
}

// writer takes the text of a chain; what is handed to it may be written.
type writer struct {
	strings.Builder
}

func (w *writer) chain(root string, l []api.Call) {
	w.WriteString(root)
	for _, c := range l {
		w.WriteString(dot)
		w.WriteString(c.Name)
		writeRow(w, args, c.Args, w.arg, endOfArgs)
	}
}

func (w *writer) arg(a api.Arg) {
	switch a.Kind {
	case api.ArgValue:
		w.value(a.V)
	case api.ArgPred:
		w.pred(a.P)
	case api.ArgChain:
		w.chain(inner, a.C)
	case api.ArgWord:
		w.WriteString(a.S)
	}
}

func (w *writer) value(v api.Value) {
	switch v.Kind {
	case api.Bool:
		w.truth(v.N)
	case api.Int:
		w.WriteString(ints.Digits(v.N))
	case api.Text:
		w.text(v.S)
	case api.List:
		writeRow(w, list, v.L, w.value, endOfList)
	}
}

func (w *writer) truth(n int) {
	if n == 0 {
		w.WriteString(untruth)
		return
	}
	w.WriteString(truth)
}

func (w *writer) text(s string) {
	w.WriteByte(quote)
	for i := range len(s) {
		if s[i] == quote || s[i] == backslash {
			w.WriteByte(backslash)
		}
		w.WriteByte(s[i])
	}
	w.WriteByte(quote)
}

func (w *writer) pred(p api.Pred) {
	w.WriteString(names[p.Kind])
	if len(p.P) > 0 {
		writeRow(w, args, p.P, w.pred, endOfArgs)
		return
	}
	writeRow(w, args, p.V, w.value, endOfArgs)
}

// writeRow writes each, with commas between, and two signs around all.
func writeRow[T any](w *writer, first string, l []T, write func(T), last string) {
	w.WriteString(first)
	for i, x := range l {
		if i > 0 {
			w.WriteString(comma)
		}
		write(x)
	}
	w.WriteString(last)
}
