package code

import (
	"strings"

	"wayfarer/api"
	"wayfarer/ints"
)

// write lays the text of v, which is a value, behind what b has.
func write(b *strings.Builder, v api.Value) {
	switch v.Kind {
	case api.Bool:
		writeBool(b, v.N)
	case api.Int:
		b.WriteString(ints.Digits(v.N))
	case api.Text:
		b.WriteString(Quote(v.S))
	case api.Vertex:
		writeThing(b, vertex, v.N)
	case api.Edge:
		writeThing(b, edge, v.N)
	case api.List:
		writeRow(b, list, v.L)
	case api.Path:
		writeRow(b, path, v.L)
	case api.Map:
		writeDict(b, v.L, v.M)
	}
}

func writeBool(b *strings.Builder, n int) {
	if n == 0 {
		b.WriteString(untruth)
		return
	}
	b.WriteString(truth)
}

func writeThing(b *strings.Builder, begin string, n int) {
	b.WriteString(begin)
	b.WriteString(ints.Digits(n))
	b.WriteString(endOfRow)
}

func writeRow(b *strings.Builder, begin string, items []api.Value) {
	b.WriteString(begin)
	for i, item := range items {
		writeComma(b, i)
		write(b, item)
	}
	b.WriteString(endOfRow)
}

func writeDict(b *strings.Builder, keys, values []api.Value) {
	b.WriteString(dict)
	for i, key := range keys {
		writeComma(b, i)
		write(b, key)
		b.WriteString(colon)
		write(b, values[i])
	}
	b.WriteString(endOfDict)
}

// writeComma lays what stands ahead of item i.
func writeComma(b *strings.Builder, i int) {
	if i > 0 {
		b.WriteString(comma)
	}
}
