package plan

import "wayfarer/api"

// names: of what steps do, by their Ops.
var names = [...]string{
	api.OpV:          "V",
	api.OpE:          "E",
	api.OpOut:        "Out",
	api.OpIn:         "In",
	api.OpBoth:       "Both",
	api.OpOutE:       "OutE",
	api.OpInE:        "InE",
	api.OpBothE:      "BothE",
	api.OpOutV:       "OutV",
	api.OpInV:        "InV",
	api.OpBothV:      "BothV",
	api.OpID:         "ID",
	api.OpLabel:      "Label",
	api.OpValues:     "Values",
	api.OpConstant:   "Constant",
	api.OpIdentity:   "Identity",
	api.OpHasLabel:   "HasLabel",
	api.OpHas:        "Has",
	api.OpHasKey:     "HasKey",
	api.OpHasNot:     "HasNot",
	api.OpHasID:      "HasID",
	api.OpIs:         "Is",
	api.OpDedup:      "Dedup",
	api.OpRange:      "Range",
	api.OpTail:       "Tail",
	api.OpSimple:     "Simple",
	api.OpCyclic:     "Cyclic",
	api.OpWhere:      "Where",
	api.OpNotThat:    "NotThat",
	api.OpAllOf:      "AllOf",
	api.OpAnyOf:      "AnyOf",
	api.OpCount:      "Count",
	api.OpSum:        "Sum",
	api.OpMin:        "Min",
	api.OpMax:        "Max",
	api.OpFold:       "Fold",
	api.OpUnfold:     "Unfold",
	api.OpTrail:      "Trail",
	api.OpSelect:     "Select",
	api.OpOrder:      "Order",
	api.OpGroup:      "Group",
	api.OpGroupCount: "GroupCount",
	api.OpProject:    "Project",
	api.OpUnion:      "Union",
	api.OpCoalesce:   "Coalesce",
	api.OpChoose:     "Choose",
	api.OpOptional:   "Optional",
	api.OpRepeat:     "Repeat",
	api.OpAggregate:  "Aggregate",
	api.OpCap:        "Cap",
	api.OpBarrier:    "Barrier",
}

// Name is the name of what a step does, or "", if there is none.
func Name(op int) string {
	if !isOp(op) {
		return ""
	}
	return names[op]
}

func isOp(op int) bool {
	return op >= api.OpV && op < len(names)
}
