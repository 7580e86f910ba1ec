package bags

import (
	"slices"

	"wayfarer/api"
	"wayfarer/ints"
	"wayfarer/value"
)

// mostInRow is how many places a row has. One long row would do, too, but
// what is laid into it moves all behind it, so many bulks would take long.
const mostInRow = 512

// pile is bulks, no two of the Same value, in the order in which these came
// first; and the places at which they stand there, in rows, rising by value
// from row to row. Only the first row may be empty.
type pile struct {
	bulks []api.Many
	rows  [][]int
}

// pileOf lays all onto one pile, or tells why it can't.
func pileOf(l []api.Many) (*pile, api.Errno) {
	if e := Check(l); e != api.OK {
		return nil, e
	}
	p := &pile{rows: [][]int{nil}}
	for _, m := range l {
		if e := p.add(m); e != api.OK {
			return nil, e
		}
	}
	return p, api.OK
}

// add lays m onto the bulk of its value.
func (p *pile) add(m api.Many) api.Errno {
	r := p.rowFor(m.V)
	i, found := slices.BinarySearchFunc(p.rows[r], m.V, func(place int, v api.Value) int {
		return value.Cmp(p.bulks[place].V, v)
	})
	if !found {
		p.begin(m, r, i)
		return api.OK
	}
	bulk := &p.bulks[p.rows[r][i]]
	n, e := ints.Add(bulk.N, m.N)
	bulk.N = n
	return e
}

// rowFor is the row in which v stands, or is to stand: the last one that
// does not begin behind it.
func (p *pile) rowFor(v api.Value) int {
	later, begins := slices.BinarySearchFunc(p.rows[1:], v, func(row []int, v api.Value) int {
		return value.Cmp(p.bulks[row[0]].V, v)
	})
	if begins {
		return later + 1
	}
	return later
}

// begin lays a value that was not there yet: its place stands at i of row r.
func (p *pile) begin(m api.Many, r, i int) {
	row := slices.Insert(p.rows[r], i, len(p.bulks))
	p.bulks = append(p.bulks, api.Many{V: value.Copy(m.V), N: m.N})
	p.rows[r] = row
	if len(row) > mostInRow {
		half := len(row) / 2
		p.rows = slices.Insert(p.rows, r+1, slices.Clone(row[half:]))
		p.rows[r] = row[:half]
	}
}

// rising is the bulks by their values.
func (p *pile) rising() []api.Many {
	bulks := make([]api.Many, 0, len(p.bulks))
	for _, row := range p.rows {
		for _, place := range row {
			bulks = append(bulks, p.bulks[place])
		}
	}
	return bulks
}
