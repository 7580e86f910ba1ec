package plan

import "wayfarer/api"

// amount is how many there may be of a field.
type amount uint8

const (
	none amount = iota
	one
	two
	three
	oneOrTwo
	oneAtMost
	twoAtMost
	many // as many as one likes
	some // one or more of these
)

// bounds: the least and the most of each amount.
var bounds = [...]struct{ least, most int }{
	none:      {0, 0},
	one:       {1, 1},
	two:       {2, 2},
	three:     {3, 3},
	oneOrTwo:  {1, 2},
	oneAtMost: {0, 1},
	twoAtMost: {0, 2},
	many:      {0, api.MaxArgs},
	some:      {1, api.MaxArgs},
}

func (a amount) allows(n int) bool {
	return n >= bounds[a].least && n <= bounds[a].most
}

// shape is which fields a step has: how many texts, numbers, plans and By, and
// whether it has a value and a predicate.
type shape struct {
	texts, numbers, plans, bys amount
	value, pred                bool
}

// shapeOf is the shape of a step with that Op, which is one.
func shapeOf(op int) shape {
	shapes := [...]shape{
		api.OpV:          {numbers: many},
		api.OpE:          {numbers: many},
		api.OpOut:        {texts: many},
		api.OpIn:         {texts: many},
		api.OpBoth:       {texts: many},
		api.OpOutE:       {texts: many},
		api.OpInE:        {texts: many},
		api.OpBothE:      {texts: many},
		api.OpOutV:       {},
		api.OpInV:        {},
		api.OpBothV:      {},
		api.OpID:         {},
		api.OpLabel:      {},
		api.OpValues:     {texts: many},
		api.OpConstant:   {value: true},
		api.OpIdentity:   {},
		api.OpHasLabel:   {texts: some},
		api.OpHas:        {texts: one, pred: true},
		api.OpHasKey:     {texts: one},
		api.OpHasNot:     {texts: one},
		api.OpHasID:      {numbers: some},
		api.OpIs:         {pred: true},
		api.OpDedup:      {},
		api.OpRange:      {numbers: two},
		api.OpTail:       {numbers: one},
		api.OpSimple:     {},
		api.OpCyclic:     {},
		api.OpWhere:      {plans: one},
		api.OpNotThat:    {plans: one},
		api.OpAllOf:      {plans: some},
		api.OpAnyOf:      {plans: some},
		api.OpCount:      {},
		api.OpSum:        {},
		api.OpMin:        {},
		api.OpMax:        {},
		api.OpFold:       {},
		api.OpUnfold:     {},
		api.OpTrail:      {},
		api.OpSelect:     {texts: some},
		api.OpOrder:      {bys: many},
		api.OpGroup:      {bys: twoAtMost},
		api.OpGroupCount: {bys: oneAtMost},
		api.OpProject:    {texts: some, bys: many},
		api.OpUnion:      {plans: some},
		api.OpCoalesce:   {plans: some},
		api.OpChoose:     {plans: three},
		api.OpOptional:   {plans: one},
		api.OpRepeat:     {plans: oneOrTwo, numbers: two},
		api.OpAggregate:  {texts: one},
		api.OpCap:        {texts: one},
		api.OpBarrier:    {},
	}
	return shapes[op]
}
