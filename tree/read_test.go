package tree_test

import (
	"slices"
	"strconv"
	"strings"

	"wayfarer/api"
)

// reader reads what Print writes, the plain way; it takes what is written as
// right, and stops with a panic where it is not.
type reader struct {
	s string
}

// read: the chain that has this text, and whether there is one.
func read(s string) (l []api.Call, ok bool) {
	defer func() {
		if recover() != nil {
			l, ok = nil, false
		}
	}()
	r := &reader{s}
	l = r.chain("g")
	return l, r.s == ""
}

func (r *reader) has(s string) bool {
	rest, ok := strings.CutPrefix(r.s, s)
	r.s = rest
	return ok
}

func (r *reader) must(s string) {
	if !r.has(s) {
		panic("no " + s)
	}
}

func (r *reader) name() string {
	n := 0
	for n < len(r.s) && (r.s[n] == '_' || r.s[n] >= '0' && r.s[n] <= '9' || r.s[n] >= 'a' && r.s[n] <= 'z' || r.s[n] >= 'A' && r.s[n] <= 'Z') {
		n++
	}
	name := r.s[:n]
	r.s = r.s[n:]
	return name
}

// row: what read reads, between the two signs, with commas between.
func row[T any](r *reader, first, last string, read func() T) []T {
	var l []T
	r.must(first)
	for !r.has(last) {
		if len(l) > 0 {
			r.must(", ")
		}
		l = append(l, read())
	}
	return l
}

func (r *reader) chain(root string) []api.Call {
	var l []api.Call
	r.must(root)
	for r.has(".") {
		name := r.name()
		l = append(l, call(name, row(r, "(", ")", r.arg)...))
	}
	return l
}

func (r *reader) arg() api.Arg {
	if strings.HasPrefix(r.s, "__.") {
		return sub(r.chain("__")...)
	}
	before := r.s
	name := r.name()
	if kind := slices.Index(taken(), name) - 2; kind >= api.Eq {
		r.s = before
		return asked(r.pred())
	}
	if name == "" || name == "true" || name == "false" || name[0] >= '0' && name[0] <= '9' {
		r.s = before
		return val(r.value())
	}
	return word(name)
}

// pred: the names that no word may be are true, false and __, and then those of
// predicates, as their kinds are numbered.
func (r *reader) pred() api.Pred {
	p := api.Pred{Kind: slices.Index(taken(), r.name()) - 2}
	if p.Kind >= api.Not {
		p.P = row(r, "(", ")", r.pred)
	} else {
		p.V = row(r, "(", ")", r.value)
	}
	return p
}

func (r *reader) value() api.Value {
	switch {
	case r.has("true"):
		return flag(true)
	case r.has("false"):
		return flag(false)
	case r.has("'"):
		return text(r.text())
	case strings.HasPrefix(r.s, "["):
		return list(row(r, "[", "]", r.value)...)
	}
	n := 1
	for n < len(r.s) && r.s[n] >= '0' && r.s[n] <= '9' {
		n++
	}
	x, err := strconv.Atoi(r.s[:n])
	if err != nil {
		panic(err)
	}
	r.s = r.s[n:]
	return num(x)
}

func (r *reader) text() string {
	var b []byte
	for !r.has("'") {
		r.has("\\")
		b = append(b, r.s[0])
		r.s = r.s[1:]
	}
	return string(b)
}
