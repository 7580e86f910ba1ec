package parser_test

import (
	"slices"
	"strings"
	"testing"

	"wayfarer/api"
	"wayfarer/lexer"
	"wayfarer/parser"
	"wayfarer/tree"
)

// want: something that is still to come: a sign, or a part of a query. A row of
// items is up to its last sign; had are there already, least have to be, and
// more of these, if many.
type want struct {
	what, item, last string
	had, least       int
	many             bool
	level            int
}

// plain goes through tokens by what is still to come, the next one last; it is
// the plainest reading of the document.
type plain struct {
	rest  []want
	calls int
}

func newPlain() *plain {
	return &plain{rest: []want{{what: "end"}, {what: "chain", level: 1}, {what: "g"}}}
}

func (p *plain) push(l ...want) {
	slices.Reverse(l)
	p.rest = append(p.rest, l...)
}

// ended: may a query end here?
func (p *plain) ended() bool {
	n := len(p.rest)
	return p.rest[n-1].what == "end" || p.rest[n-1].what == "calls" && p.rest[n-2].what == "end"
}

func hasKind(t api.Token, kind int, l ...string) bool {
	return t.Kind == kind && slices.Contains(l, t.S)
}

func told(ok bool) api.Errno {
	if ok {
		return api.OK
	}
	return api.ErrText
}

// step: may t come next? If not, why?
func (p *plain) step(t api.Token) api.Errno {
	for {
		w := p.rest[len(p.rest)-1]
		p.rest = p.rest[:len(p.rest)-1]
		switch w.what {
		case "end":
			return api.ErrText
		case "g":
			return told(hasKind(t, api.TokName, "g"))
		case ".", "(":
			return told(hasKind(t, api.TokSign, w.what))
		case "name":
			return p.name(t)
		case "chain":
			p.push(want{what: "."}, want{what: "name"}, want{what: "("},
				want{what: "row", item: "arg", last: ")", many: true, level: w.level},
				want{what: "calls", level: w.level})
		case "calls":
			if hasKind(t, api.TokSign, ".") {
				p.push(want{what: "chain", level: w.level})
			}
		case "row":
			if w.had >= w.least && hasKind(t, api.TokSign, w.last) {
				return api.OK
			}
			comma := w.had > 0
			if comma && (!hasKind(t, api.TokSign, ",") || w.had >= w.least && !w.many) {
				return api.ErrText
			}
			item := want{what: w.item, had: w.had, level: w.level}
			w.had++
			p.push(item, w)
			if comma {
				return api.OK
			}
		default:
			return p.item(t, w)
		}
	}
}

func (p *plain) name(t api.Token) api.Errno {
	if t.Kind != api.TokName || t.S == "__" || len(t.S) > api.MaxName {
		return api.ErrText
	}
	if p.calls++; p.calls > api.MaxCalls {
		return api.ErrLong
	}
	return api.OK
}

func (p *plain) item(t api.Token, w want) api.Errno {
	kind := 0
	if t.Kind == api.TokName {
		kind = max(slices.Index(taken(), t.S)-2, 0)
	}
	first := t.Kind != api.TokSign && w.what != "pred" || hasKind(t, api.TokSign, "[") && w.what != "pred" || kind > 0 && w.what == "pred"
	most := api.MaxItems
	if w.what == "arg" {
		most = api.MaxArgs
	}
	if w.had == most {
		if first {
			return api.ErrLong
		}
		return api.ErrText
	}
	isValue := t.Kind == api.TokNumber || t.Kind == api.TokText || hasKind(t, api.TokName, "true", "false") || hasKind(t, api.TokSign, "[")
	switch {
	case isValue && w.what == "arg":
		return p.value(t, 1)
	case isValue && w.what == "value":
		return p.value(t, w.level)
	case kind > 0 && w.what == "arg":
		return p.pred(kind, 1)
	case kind > 0 && w.what == "pred":
		return p.pred(kind, w.level)
	case w.what == "arg" && hasKind(t, api.TokName, "__"):
		p.push(want{what: "chain", level: w.level + 1})
		if w.level+1 > api.MaxNest {
			return api.ErrLong
		}
		return api.OK
	}
	return told(w.what == "arg" && t.Kind == api.TokName && len(t.S) <= api.MaxName)
}

func (p *plain) value(t api.Token, level int) api.Errno {
	if level > api.MaxDepth {
		return api.ErrLong
	}
	if t.Kind == api.TokSign {
		p.push(want{what: "row", item: "value", last: "]", many: true, level: level + 1})
	}
	return api.OK
}

func (p *plain) pred(kind, level int) api.Errno {
	if level > api.MaxDepth {
		return api.ErrLong
	}
	row := want{what: "row", item: "value", last: ")", level: 1}
	if kind >= api.Not {
		row.item, row.level = "pred", level+1
	}
	switch {
	case kind <= api.Gte || kind == api.Not:
		row.least = 1
	case kind <= api.Outside:
		row.least = 2
	case kind <= api.Without:
		row.many = true
	default:
		row.least, row.many = 2, true
	}
	p.push(want{what: "("}, row)
	return api.OK
}

// plainly: where q is wrong, and why; or whether more could follow, where its
// tokens are missing.
func plainly(q string) (place int, e api.Errno, more bool) {
	l, place, e := lexer.All([]byte(q))
	if e != api.OK {
		return place, e, false
	}
	p := newPlain()
	for _, t := range l {
		if e := p.step(t); e != api.OK {
			return t.At, e, false
		}
	}
	if p.ended() {
		return 0, api.OK, true
	}
	return len(q), api.ErrText, true
}

// printed: how the tokens of q are printed, if they are a query.
func printed(q string) string {
	var s strings.Builder
	for t := range lexer.Tokens([]byte(q)) {
		switch {
		case t.Kind == api.TokText:
			s.WriteString("'" + strings.NewReplacer("'", `\'`, `\`, `\\`).Replace(t.S) + "'")
		case hasKind(t, api.TokSign, ","):
			s.WriteString(", ")
		default:
			s.WriteString(t.S)
		}
	}
	return s.String()
}

// check: what Parse and Round tell of q is what it plainly is. It is told
// whether more could follow.
func check(t *testing.T, q string) bool {
	t.Helper()
	place, e, more := plainly(q)
	if e != api.OK {
		checkTold(t, q, place, e)
		return more
	}
	l, place, e := parser.Parse([]byte(q))
	if place != 0 || e != api.OK || tree.Check(l) != api.OK {
		t.Errorf("Parse(%s) = %s, %d, %d; it is a query", show(q), showChain(l), place, e)
	}
	s := printed(q)
	checkRound(t, q, s)
	checkParse(t, s, l...)
	return more
}
