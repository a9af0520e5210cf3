package lean_test

import (
	"testing"

	"vouch/api"
	"vouch/lean"
)

// 20.1 to 20.3: the rows of 'Examples' of which one container alone may be answered.
func TestExamplesJust(t *testing.T) {
	for _, x := range []struct{ c, want api.Container }{
		{one(0, "00"), one(0, "00")},
		{one(0, "5b 5b 00"), one(0, "00")},
		{one(0, "e0 0000 00"), one(0, "00")},
		{one(1, "5f e1 0003 e0 fff9 e0 fffd"), one(1, "5f e1 0003 e0 fff9 e0 fffd")},
		{one(2, "5f 5f e1 0001 5f 50 00"), one(2, "5f 5f e1 0001 5f 50 00")},
	} {
		turns(t, x.c, x.want)
		if lean.Is(x.c, api.Runtime) != same(x.c, x.want) {
			t.Errorf("Is of %s", told(x.c))
		}
	}
}

// 20.1 to 20.3: the rows of 'Examples' that say such as: it is what this program answers.
func TestExamplesSuchAs(t *testing.T) {
	turns(t, one(1, "5f 50 00"), one(0, "00"))
	turns(t, one(2, "5f 60 05 5b 50 50 00"), one(0, "00"))
	turns(t, one(1, "5f e1 0001 00 e0 0000 00"), one(1, "5f e1 0001 00 00"))
	turns(t, one(1, "5f e1 0001 5b 00"), one(1, "5f e1 0000 00"))
}

// 20.3: the rows of 'Examples' that are refused.
func TestExamplesRefused(t *testing.T) {
	for _, x := range []struct {
		c     api.Container
		kind  int
		wrong api.Errno
		at    int
	}{
		{one(1, "5f 5f 00"), api.Runtime, api.ErrMost, 0},
		{one(0, "e0 0001 5b 00"), api.Runtime, api.ErrDead, 3},
		{one(0, "00"), 3, api.ErrArg, 0},
	} {
		refused(t, x.c, x.kind, api.Reject{Code: x.wrong, At: x.at})
	}
}
