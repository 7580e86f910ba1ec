package graph_test

import (
	"strings"
	"testing"

	"wayfarer/api"
	"wayfarer/graph"
)

const (
	asLetters = "abcdefghijklmnopqrstuvwxyzABCDEFGHIJKLMNOPQRSTUVWXYZ_"
	asDigits  = "0123456789"
)

func checkName(t *testing.T, s string, want bool) {
	t.Helper()
	if graph.Name(s) != want {
		t.Errorf("Name(%.60q) is not %v", s, want)
	}
}

func TestName(t *testing.T) {
	checkName(t, "age", true)
	checkName(t, "2x", false)
	for _, s := range names() {
		checkName(t, s, true)
	}
	for _, s := range unnamed() {
		checkName(t, s, false)
	}
}

func TestNameOfAnyByte(t *testing.T) {
	for c := range 256 {
		b := string([]byte{byte(c)})
		letter, digit := strings.Contains(asLetters, b), strings.Contains(asDigits, b)
		checkName(t, b, letter)
		for _, s := range []string{"a" + b, "a" + b + "a", letters(api.MaxName-1) + b} {
			checkName(t, s, letter || digit)
		}
		for _, s := range []string{b + "a", b + "9", b + "_"} {
			checkName(t, s, letter)
		}
	}
}

func TestNameOfAnyLength(t *testing.T) {
	for n := range 3 * api.MaxName {
		checkName(t, letters(n), n >= 1 && n <= api.MaxName)
		checkName(t, "_"+strings.Repeat("0", n), n+1 <= api.MaxName)
		// Bytes count, not letters.
		checkName(t, strings.Repeat("é", n), false)
	}
}

func TestPlain(t *testing.T) {
	for _, v := range plain() {
		if !graph.Plain(v) {
			t.Errorf("%s is not plain", showValue(v))
		}
	}
	for _, v := range unplain() {
		if graph.Plain(v) {
			t.Errorf("%s is plain", showValue(v))
		}
	}
}

// A list is plain if, and only if, what is in it is plain by itself and no
// list.
func TestPlainLists(t *testing.T) {
	for _, l := range [][]api.Value{plain(), unplain()} {
		for _, v := range l {
			want := graph.Plain(v) && v.Kind != api.List
			for _, row := range []api.Value{list(v), list(num(1), v), list(v, word("x")), list(v, v)} {
				if graph.Plain(row) != want {
					t.Errorf("a list with %s in it: not %v", showValue(v), want)
				}
			}
		}
	}
}

// What is wide at each level is refused without going down.
func TestPlainOfWhatIsWideAndDeep(t *testing.T) {
	v := num(1)
	for range 5 {
		row := make([]api.Value, api.MaxItems)
		for i := range row {
			row[i] = v
		}
		v = list(row...)
	}
	for _, x := range []api.Value{v, endless(api.List, api.MaxItems), endless(api.Path, api.MaxItems), list(num(1), v)} {
		if graph.Plain(x) {
			t.Errorf("%s is plain", showValue(x))
		}
	}
}

func TestPlainChangesNothing(t *testing.T) {
	for _, l := range [][]api.Value{plain(), other()} {
		for _, v := range l {
			was := cloneThing(vertex(0, "v", prop("k", v)))
			graph.Plain(v)
			checkThing(t, "what was handed in", vertex(0, "v", prop("k", v)), was)
		}
	}
}
