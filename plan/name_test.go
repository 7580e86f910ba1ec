package plan_test

import (
	"testing"

	"wayfarer/api"
	"wayfarer/plan"
)

func TestName(t *testing.T) {
	if s := plan.Name(3); s != "Out" {
		t.Errorf("Name(3) = %q", s)
	}
	named := map[int]bool{}
	for name, op := range opsOfApi(t) {
		if s := plan.Name(op); s != name {
			t.Errorf("Name(%d) = %q; want %q", op, s, name)
		}
		named[op] = true
	}
	for op := -300; op <= 300; op++ {
		if s := plan.Name(op); (s != "") != named[op] {
			t.Errorf("Name(%d) = %q", op, s)
		}
	}
	for _, op := range []int{api.MinInt, api.MinInt + 1, 1<<32 + 3, 1<<31 + 3, api.MaxInt} {
		if s := plan.Name(op); s != "" {
			t.Errorf("Name(%d) = %q", op, s)
		}
	}
}
