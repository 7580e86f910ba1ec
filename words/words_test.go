// Package words holds tests alone: of the words that all layers share, and of
// how the program is written.
package words

import (
	"testing"

	"wayfarer/api"
)

type word struct {
	name      string
	got, want int
}

func checkWords(t *testing.T, words []word) {
	t.Helper()
	for _, w := range words {
		if w.got != w.want {
			t.Errorf("%s is %d; want %d", w.name, w.got, w.want)
		}
	}
}

func TestLimits(t *testing.T) {
	checkWords(t, []word{
		{"MaxText", api.MaxText, 1000},
		{"MaxItems", api.MaxItems, 1000},
		{"MaxDepth", api.MaxDepth, 12},
		{"MaxVertices", api.MaxVertices, 500},
		{"MaxEdges", api.MaxEdges, 2000},
		{"MaxProps", api.MaxProps, 30},
		{"MaxName", api.MaxName, 40},
		{"MaxScript", api.MaxScript, 1048576},
		{"MaxQuery", api.MaxQuery, 20000},
		{"MaxCalls", api.MaxCalls, 200},
		{"MaxNest", api.MaxNest, 10},
		{"MaxArgs", api.MaxArgs, 50},
		{"MaxSteps", api.MaxSteps, 400},
		{"MaxFuel", api.MaxFuel, 16384},
		{"MaxPasses", api.MaxPasses, 5},
		{"MaxInt", api.MaxInt, 9223372036854775807},
		{"MinInt", api.MinInt, -9223372036854775808},
	})
}

func TestNamesForNumbers(t *testing.T) {
	checkWords(t, []word{
		{"Bool", api.Bool, 1},
		{"Int", api.Int, 2},
		{"Text", api.Text, 3},
		{"Vertex", api.Vertex, 4},
		{"Edge", api.Edge, 5},
		{"List", api.List, 6},
		{"Map", api.Map, 7},
		{"Path", api.Path, 8},
		{"Outward", api.Outward, 1},
		{"Inward", api.Inward, 2},
		{"Either", api.Either, 3},
		{"TokName", api.TokName, 1},
		{"TokNumber", api.TokNumber, 2},
		{"TokText", api.TokText, 3},
		{"TokSign", api.TokSign, 4},
		{"Eq", api.Eq, 1},
		{"Neq", api.Neq, 2},
		{"Lt", api.Lt, 3},
		{"Lte", api.Lte, 4},
		{"Gt", api.Gt, 5},
		{"Gte", api.Gte, 6},
		{"Between", api.Between, 7},
		{"Inside", api.Inside, 8},
		{"Outside", api.Outside, 9},
		{"Within", api.Within, 10},
		{"Without", api.Without, 11},
		{"Not", api.Not, 12},
		{"And", api.And, 13},
		{"Or", api.Or, 14},
		{"ArgValue", api.ArgValue, 1},
		{"ArgPred", api.ArgPred, 2},
		{"ArgChain", api.ArgChain, 3},
		{"ArgWord", api.ArgWord, 4},
		{"ByValue", api.ByValue, 1},
		{"ByKey", api.ByKey, 2},
		{"ByChain", api.ByChain, 3},
		{"IsVertex", api.IsVertex, 1},
		{"IsEdge", api.IsEdge, 2},
		{"IsValue", api.IsValue, 4},
		{"RuleDrop", api.RuleDrop, 1},
		{"RuleSplit", api.RuleSplit, 2},
		{"RuleInline", api.RuleInline, 3},
		{"RuleEdges", api.RuleEdges, 4},
		{"RuleRanges", api.RuleRanges, 5},
		{"RulePreds", api.RulePreds, 6},
		{"RuleDedups", api.RuleDedups, 7},
		{"RuleRanks", api.RuleRanks, 8},
		{"OpV", api.OpV, 1},
		{"OpE", api.OpE, 2},
		{"OpOut", api.OpOut, 3},
		{"OpIn", api.OpIn, 4},
		{"OpBoth", api.OpBoth, 5},
		{"OpOutE", api.OpOutE, 6},
		{"OpInE", api.OpInE, 7},
		{"OpBothE", api.OpBothE, 8},
		{"OpOutV", api.OpOutV, 9},
		{"OpInV", api.OpInV, 10},
		{"OpBothV", api.OpBothV, 11},
		{"OpID", api.OpID, 12},
		{"OpLabel", api.OpLabel, 13},
		{"OpValues", api.OpValues, 14},
		{"OpConstant", api.OpConstant, 15},
		{"OpIdentity", api.OpIdentity, 16},
		{"OpHasLabel", api.OpHasLabel, 17},
		{"OpHas", api.OpHas, 18},
		{"OpHasKey", api.OpHasKey, 19},
		{"OpHasNot", api.OpHasNot, 20},
		{"OpHasID", api.OpHasID, 21},
		{"OpIs", api.OpIs, 22},
		{"OpDedup", api.OpDedup, 23},
		{"OpRange", api.OpRange, 24},
		{"OpTail", api.OpTail, 25},
		{"OpSimple", api.OpSimple, 26},
		{"OpCyclic", api.OpCyclic, 27},
		{"OpWhere", api.OpWhere, 28},
		{"OpNotThat", api.OpNotThat, 29},
		{"OpAllOf", api.OpAllOf, 30},
		{"OpAnyOf", api.OpAnyOf, 31},
		{"OpCount", api.OpCount, 32},
		{"OpSum", api.OpSum, 33},
		{"OpMin", api.OpMin, 34},
		{"OpMax", api.OpMax, 35},
		{"OpFold", api.OpFold, 36},
		{"OpUnfold", api.OpUnfold, 37},
		{"OpTrail", api.OpTrail, 38},
		{"OpSelect", api.OpSelect, 39},
		{"OpOrder", api.OpOrder, 40},
		{"OpGroup", api.OpGroup, 41},
		{"OpGroupCount", api.OpGroupCount, 42},
		{"OpProject", api.OpProject, 43},
		{"OpUnion", api.OpUnion, 44},
		{"OpCoalesce", api.OpCoalesce, 45},
		{"OpChoose", api.OpChoose, 46},
		{"OpOptional", api.OpOptional, 47},
		{"OpRepeat", api.OpRepeat, 48},
		{"OpAggregate", api.OpAggregate, 49},
		{"OpCap", api.OpCap, 50},
		{"OpBarrier", api.OpBarrier, 51},
	})
}

func TestErrors(t *testing.T) {
	for _, x := range []struct {
		name string
		got  any
		want api.Errno
	}{
		{"OK", api.OK, 0},
		{"ErrNil", api.ErrNil, 1},
		{"ErrArg", api.ErrArg, 2},
		{"ErrLong", api.ErrLong, 3},
		{"ErrNone", api.ErrNone, 4},
		{"ErrRange", api.ErrRange, 10},
		{"ErrText", api.ErrText, 30},
		{"ErrGraph", api.ErrGraph, 50},
		{"ErrTwice", api.ErrTwice, 60},
		{"ErrStep", api.ErrStep, 130},
		{"ErrType", api.ErrType, 140},
		{"ErrEval", api.ErrEval, 160},
		{"ErrFuel", api.ErrFuel, 180},
	} {
		// An any is the same only if it has the type Errno, too.
		if x.got != x.want {
			t.Errorf("%s is %v; want %d", x.name, x.got, x.want)
		}
	}
}
