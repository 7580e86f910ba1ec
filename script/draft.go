package script

import (
	"strings"

	"wayfarer/api"
)

// draft is a graph, as far as its lines are read.
type draft struct {
	vertices, edges pile
}

func newDraft() *draft {
	return &draft{vertices: newPile(api.MaxVertices), edges: newPile(api.MaxEdges)}
}

// form does what a line says, the words of which these are, behind those that
// tell its form.
type form func(w *words) api.Errno

// forms: each by the words that a line of it begins with.
func (d *draft) forms() map[string]form {
	return map[string]form{
		vertex:    d.layVertex,
		edge:      d.layEdge,
		setVertex: d.vertices.set,
		setEdge:   d.edges.set,
	}
}

// take does what a line says.
func take(line string, forms map[string]form) api.Errno {
	if line == "" || strings.HasPrefix(line, remark) {
		return api.OK
	}
	w := wordsOf(line)
	do, ok := forms[w.form()]
	if !ok {
		return api.ErrText
	}
	return do(w)
}

func (d *draft) layVertex(w *words) api.Errno {
	t := api.Thing{ID: w.number(), Label: w.name()}
	switch {
	case !w.fit():
		return api.ErrText
	case d.vertices.has(t.ID):
		return api.ErrTwice
	}
	return d.vertices.lay(t)
}

func (d *draft) layEdge(w *words) api.Errno {
	t := api.Thing{ID: w.number(), Label: w.name(), Out: w.number(), In: w.number()}
	switch {
	case !w.fit():
		return api.ErrText
	case d.edges.has(t.ID):
		return api.ErrTwice
	case !d.vertices.has(t.Out) || !d.vertices.has(t.In):
		return api.ErrNone
	}
	return d.edges.lay(t)
}

func (d *draft) graph() api.Graph {
	return api.Graph{V: d.vertices.all(), E: d.edges.all()}
}
