package script

import (
	"strings"

	"wayfarer/api"
	"wayfarer/code"
	"wayfarer/ints"
)

// sink is where what is written goes.
type sink interface {
	WriteString(s string) (int, error)
}

// writeThings writes things of one kind, all of which may be in a graph.
func writeThings(to sink, kind string, l []api.Thing) {
	for _, t := range l {
		writeThing(to, kind, t)
		for _, p := range t.Props {
			writeProp(to, kind, t.ID, p)
		}
	}
}

func writeThing(to sink, kind string, t api.Thing) {
	line := []string{kind, ints.Digits(t.ID), t.Label}
	if kind == edge {
		line = append(line, ints.Digits(t.Out), ints.Digits(t.In))
	}
	writeLine(to, line...)
}

func writeProp(to sink, kind string, id int, p api.Prop) {
	// A property of a graph is a value, so it has a text.
	text, _ := code.Print(p.V)
	writeLine(to, set, kind, ints.Digits(id), p.Key, text)
}

func writeLine(to sink, line ...string) {
	to.WriteString(strings.Join(line, blank))
	to.WriteString(lineFeed)
}
