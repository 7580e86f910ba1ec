package parser

import "wayfarer/api"

// row is tokens that are still to be read, and where their query ends.
type row struct {
	left []api.Token
	end  int
}

// next is the token that stands first, or one of no kind, if none is left.
func (r *row) next() api.Token {
	if len(r.left) == 0 {
		return api.Token{}
	}
	return r.left[0]
}

// place is where that one begins, or where the query ends.
func (r *row) place() int {
	if len(r.left) == 0 {
		return r.end
	}
	return r.left[0].At
}

// skip goes past that one, which is there.
func (r *row) skip() {
	r.left = r.left[1:]
}

// sees tells whether that sign stands first.
func (r *row) sees(sign string) bool {
	t := r.next()
	return t.Kind == api.TokSign && t.S == sign
}

// take goes past that sign, if it stands first.
func (r *row) take(sign string) bool {
	if !r.sees(sign) {
		return false
	}
	r.skip()
	return true
}

// tooMany is why there is no further argument, and no further value, where
// there are as many as may be. Whatever name comes, is one too many: it is not
// asked whether it could stand there.
func (r *row) tooMany() api.Errno {
	switch r.next().Kind {
	case api.TokName, api.TokNumber, api.TokText:
		return api.ErrLong
	}
	if r.sees(list) {
		return api.ErrLong
	}
	return api.ErrText
}
