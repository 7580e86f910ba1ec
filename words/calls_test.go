package words

import (
	"iter"

	"wayfarer/api"
	"wayfarer/bags"
	"wayfarer/build"
	"wayfarer/code"
	"wayfarer/driver"
	"wayfarer/engine"
	"wayfarer/eval"
	"wayfarer/gather"
	"wayfarer/graph"
	"wayfarer/ints"
	"wayfarer/lexer"
	"wayfarer/lower"
	"wayfarer/machine"
	"wayfarer/parser"
	"wayfarer/plan"
	"wayfarer/pred"
	"wayfarer/rules"
	"wayfarer/script"
	"wayfarer/sorter"
	"wayfarer/store"
	"wayfarer/trail"
	"wayfarer/tree"
	"wayfarer/types"
	"wayfarer/value"
)

// The calls that the chapters list, with their exact signatures: these lines
// compile as long as they are kept.
var (
	// Layer 1.
	_ func(l ...int) (int, api.Errno)     = ints.Add
	_ func(l ...int) (int, api.Errno)     = ints.Mul
	_ func(n int) (int, api.Errno)        = ints.Neg
	_ func(n int, k int) (int, api.Errno) = ints.Times
	_ func(n int) string                  = ints.Digits
	_ func(s string) (int, api.Errno)     = ints.Parse
	_ func(l ...int) (int, bool)          = ints.Least
	_ func(l ...int) (int, bool)          = ints.Greatest

	// Layer 2.
	_ func(b bool) api.Value                             = value.Truth
	_ func(n int) api.Value                              = value.Number
	_ func(s string) api.Value                           = value.Word
	_ func(l ...api.Value) api.Value                     = value.Row
	_ func(l ...api.Value) (api.Value, api.Errno)        = value.Dict
	_ func(v api.Value) api.Errno                        = value.Check
	_ func(a api.Value, b api.Value) int                 = value.Cmp
	_ func(a api.Value, b api.Value) bool                = value.Same
	_ func(v api.Value) api.Value                        = value.Copy
	_ func(m api.Value, key api.Value) (api.Value, bool) = value.Find
	_ func(v api.Value) int                              = value.Depth

	// Layer 3.
	_ func(v api.Value) (string, api.Errno)    = code.Print
	_ func(s string) (api.Value, api.Errno)    = code.Parse
	_ func(s string) string                    = code.Quote
	_ func(l ...api.Value) (string, api.Errno) = code.Rows

	// Layer 4.
	_ func(l ...api.Value) []api.Many                       = bags.Of
	_ func(l []api.Many) api.Errno                          = bags.Check
	_ func(l []api.Many) ([]api.Many, api.Errno)            = bags.Merge
	_ func(l []api.Many) ([]api.Many, api.Errno)            = bags.Bulk
	_ func(l []api.Many, most int) ([]api.Value, api.Errno) = bags.Expand
	_ func(l []api.Many) (int, api.Errno)                   = bags.Count
	_ func(a []api.Many, b []api.Many) bool                 = bags.Same

	// Layer 5.
	_ func(s string) bool                                               = graph.Name
	_ func(v api.Value) bool                                            = graph.Plain
	_ func(g api.Graph) api.Errno                                       = graph.Check
	_ func(l []api.Thing, id int) (api.Thing, bool)                     = graph.At
	_ func(t api.Thing, key string) (api.Value, bool)                   = graph.Prop
	_ func(t api.Thing, key string, v api.Value) (api.Thing, api.Errno) = graph.With
	_ func(g api.Graph) api.Graph                                       = graph.Copy

	// Layer 6.
	_ func(b []byte) (api.Graph, int, api.Errno) = script.Parse
	_ func(g api.Graph) (string, api.Errno)      = script.Print

	// Layer 7.
	_ func(g api.Graph) (*store.Store, api.Errno)                   = store.New
	_ func(s *store.Store, ids ...int) []int                        = (*store.Store).Vertices
	_ func(s *store.Store, ids ...int) []int                        = (*store.Store).Edges
	_ func(s *store.Store, id int) (api.Thing, bool)                = (*store.Store).Vertex
	_ func(s *store.Store, id int) (api.Thing, bool)                = (*store.Store).Edge
	_ func(s *store.Store, id int, way int, labels ...string) []int = (*store.Store).Around
	_ func(s *store.Store, id int, way int, labels ...string) []int = (*store.Store).Next
	_ func(s *store.Store) (int, int)                               = (*store.Store).Len

	// Layer 8.
	_ func(q []byte) ([]api.Token, int, api.Errno) = lexer.All
	_ func(q []byte) iter.Seq[api.Token]           = lexer.Tokens
	_ func(c byte) bool                            = lexer.Sign

	// Layer 9.
	_ func(p api.Pred) api.Errno             = pred.Check
	_ func(p api.Pred, v api.Value) bool     = pred.Test
	_ func(p api.Pred) api.Pred              = pred.Negate
	_ func(p api.Pred) api.Pred              = pred.Copy
	_ func(kind int, l ...api.Pred) api.Pred = pred.Join

	// Layer 10.
	_ func(l []api.Call) api.Errno           = tree.Check
	_ func(l []api.Call) (string, api.Errno) = tree.Print
	_ func(l []api.Call) int                 = tree.Nest
	_ func(l []api.Call) int                 = tree.Calls
	_ func(l []api.Call) []api.Call          = tree.Copy
	_ func(a []api.Call, b []api.Call) bool  = tree.Same

	// Layer 11.
	_ func(q []byte) ([]api.Call, int, api.Errno) = parser.Parse
	_ func(q []byte) (string, int, api.Errno)     = parser.Round

	// Layer 12.
	_ func(op int) string                   = plan.Name
	_ func(l []api.Step) api.Errno          = plan.Check
	_ func(a []api.Step, b []api.Step) bool = plan.Same
	_ func(l []api.Step) []api.Step         = plan.Copy
	_ func(l []api.Step) int                = plan.Steps
	_ func(l []api.Step) int                = plan.Nest
	_ func(l []api.Step, ops ...int) bool   = plan.Uses
	_ func(l []api.Step) bool               = plan.Free

	// Layer 13.
	_ func(l []api.Call) ([]api.Step, int, api.Errno) = build.Plan

	// Layer 14.
	_ func(l []api.Step, in int) (int, int, api.Errno) = types.Of
	_ func(l []api.Step) (int, int, api.Errno)         = types.Query

	// Layer 15.
	_ func(v api.Value) api.Trav                          = trail.Start
	_ func(t api.Trav, v api.Value) api.Trav              = trail.On
	_ func(t api.Trav, as ...string) api.Trav             = trail.Name
	_ func(t api.Trav) api.Value                          = trail.At
	_ func(t api.Trav) (api.Value, api.Errno)             = trail.Path
	_ func(t api.Trav) bool                               = trail.Simple
	_ func(t api.Trav, name string) (api.Value, bool)     = trail.Find
	_ func(t api.Trav, names ...string) (api.Value, bool) = trail.Select
	_ func(a api.Trav, b api.Trav) bool                   = trail.Same

	// Layer 16.
	_ func(l []api.Many) []api.Many                                 = gather.Glue
	_ func(l []api.Many, low int, high int) ([]api.Many, api.Errno) = gather.Range
	_ func(l []api.Many, n int) ([]api.Many, api.Errno)             = gather.Tail
	_ func(l []api.Many) ([]api.Many, api.Errno)                    = gather.Dedup
	_ func(l []api.Many) (int, bool, api.Errno)                     = gather.Sum
	_ func(l []api.Many) (api.Value, api.Value, bool)               = gather.Ends
	_ func(l []api.Many) (api.Value, api.Errno)                     = gather.Fold

	// Layer 17.
	_ func(a api.Keyed, b api.Keyed, desc ...bool) int = sorter.Cmp
	_ func(l []api.Keyed, desc ...bool) []int          = sorter.Order
	_ func(l []api.Value) ([]api.Value, [][]int)       = sorter.Groups
	_ func(l []api.Many) (api.Value, api.Errno)        = sorter.Counts

	// Layer 18.
	_ func(g api.Graph, l []api.Step, fuel int) ([]api.Value, int, api.Errno) = eval.Run

	// Layer 19.
	_ func(rule int, l []api.Step) ([]api.Step, api.Errno) = rules.Apply
	_ func(x api.Step) bool                                = rules.Asks
	_ func(l []api.Step) bool                              = rules.Safe

	// Layer 20.
	_ func(l []api.Step, mask int) ([]api.Step, api.Errno)      = driver.Pass
	_ func(l []api.Step, mask int) ([]api.Step, int, api.Errno) = driver.Run
	_ func(mask int, rule int) bool                             = driver.Has

	// Layer 21.
	_ func(l []api.Step) (api.Prog, api.Errno) = lower.Lower
	_ func(p api.Prog) ([]api.Step, api.Errno) = lower.Raise
	_ func(p api.Prog) api.Errno               = lower.Check
	_ func(a api.Prog, b api.Prog) bool        = lower.Same

	// Layer 22.
	_ func(g api.Graph, p api.Prog, fuel int) ([]api.Many, api.Errno) = machine.Run

	// Layer 23.
	_ func(query []byte) ([]api.Step, int, api.Errno)                              = engine.Plan
	_ func(l []api.Many) (string, api.Errno)                                       = engine.Text
	_ func(graph []byte, query []byte, mask int, fuel int) (api.Answer, api.Errno) = engine.Run
)
