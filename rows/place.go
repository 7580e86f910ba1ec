// Package rows holds what several layers ask of rows: where they stand, and
// whether they are the same. What is in such a row may be very deep, in itself,
// or handed in for many places.
package rows

// Place is where a row stands: where its first one does, and how many there
// are.
type Place[T any] struct {
	first *T
	size  int
}

// At is where l stands. Rows of none all stand in one place.
func At[T any](l []T) Place[T] {
	if len(l) == 0 {
		return Place[T]{}
	}
	return Place[T]{&l[0], len(l)}
}

// Met are the places of rows that were met: what asks it ahead of going through
// a row comes to an end, and goes through each row once.
type Met[T any] map[Place[T]]struct{}

// Add tells whether l is met for the first time.
func (m Met[T]) Add(l []T) bool {
	p := At(l)
	if _, met := m[p]; met {
		return false
	}
	m[p] = struct{}{}
	return true
}

// kin are places, each with another one at which the same row has to stand.
type kin[T any] map[Place[T]]Place[T]

// join makes both kin, and tells whether they were not.
func (k kin[T]) join(p, q Place[T]) bool {
	p, q = k.head(p), k.head(q)
	if p == q {
		return false
	}
	k[p] = q
	return true
}

// head is the place that stands for p and all its kin.
func (k kin[T]) head(p Place[T]) Place[T] {
	for next, ok := k[p]; ok; next, ok = k[p] {
		// The way to the head is made shorter for the next one who asks.
		if over, ok := k[next]; ok {
			k[p] = over
		}
		p = next
	}
	return p
}
