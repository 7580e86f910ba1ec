package tree_test

import (
	"slices"
	"testing"

	"wayfarer/api"
)

func TestNestAndCalls(t *testing.T) {
	checkSize(t, nil, 1, 0)
	checkSize(t, []api.Call{}, 1, 0)
	checkSize(t, one(), 1, 1)
	checkSize(t, many(5), 1, 5)
	checkSize(t, one(val(num(1)), asked(eq(1)), word("x")), 1, 1)
	checkSize(t, one(val(within(num(1), 5)), asked(nots(eq(1), 5))), 1, 1)
	checkSize(t, one(sub(one()...)), 2, 2)
	checkSize(t, one(sub(one()...), sub(many(3)...)), 2, 5)
	checkSize(t, one(sub(one()...), sub(one(sub(one()...))...), sub(one()...)), 3, 5)
	checkSize(t, chain(call("a", sub(tower(3)...)), call("b", sub(many(2)...)), call("c")), 4, 8)
	checkSize(t, chain(call("a", sub(many(2)...)), call("b"), call("c", sub(tower(3)...))), 4, 8)
}

// Nest and Calls are of any calls, be they a chain or not.
func TestNestAndCallsOfNoChain(t *testing.T) {
	checkSize(t, chain(api.Call{}), 1, 1)
	checkSize(t, chain(call("__"), call("9", word(""))), 1, 2)
	checkSize(t, one(slices.Repeat([]api.Arg{word("x")}, api.MaxArgs+1)...), 1, 1)
	checkSize(t, one(slices.Repeat([]api.Arg{sub(one()...)}, api.MaxArgs+1)...), 2, api.MaxArgs+2)
	checkSize(t, chain(call("", sub(call("")), val(api.Value{}))), 2, 2)
}

func TestNestEnds(t *testing.T) {
	for height := 1; height <= 40; height++ {
		most := min(height, api.MaxNest+1)
		checkSize(t, tower(height), most, min(height, looked))
		checkSize(t, append(one(), tower(height)...), most, min(height, looked)+1)
		for _, f := range arounds() {
			l := around(f, one(), height-1)
			checkSize(t, l, most, plainCalls(l, 1))
		}
	}
	checkSize(t, tower(5000), api.MaxNest+1, looked)
}

func TestCallsEnd(t *testing.T) {
	for _, n := range []int{api.MaxCalls - 1, api.MaxCalls, api.MaxCalls + 1, api.MaxCalls + 2, 10 * api.MaxCalls, 1 << 20} {
		most := min(n, api.MaxCalls+1)
		checkSize(t, many(n), 1, most)
		checkSize(t, one(sub(many(n-1)...)), 2, most)
		checkSize(t, one(sub(many(n-2)...), sub(one()...)), 2, most)
		checkSize(t, append(one(sub(many(n-3)...)), many(2)...), 2, most)
		checkSize(t, around(arounds()[0], many(n-api.MaxNest+1), api.MaxNest-1), api.MaxNest, most)
		checkSize(t, around(arounds()[0], many(n-looked+1), looked-1), looked, most)
		checkSize(t, around(arounds()[0], many(n), looked), looked, looked)
	}
}

func TestSizeOfWhatIsInItself(t *testing.T) {
	checkSize(t, inItself(1, 1), api.MaxNest+1, looked)
	checkSize(t, append(many(3), inItself(1, 1)...), api.MaxNest+1, looked+3)
	for _, calls := range []int{1, 2, 1000} {
		for _, args := range []int{2, api.MaxArgs, 1000} {
			checkSize(t, inItself(calls, args), api.MaxNest+1, api.MaxCalls+1)
		}
	}
}

// plainCalls: how many calls there are in l, which stands at that level, as far
// down as is looked.
func plainCalls(l []api.Call, level int) int {
	if level > looked {
		return 0
	}
	n := len(l)
	for _, c := range l {
		for _, a := range c.Args {
			n += plainCalls(a.C, level+1)
		}
	}
	return n
}
