package script

import (
	"testing"

	"vouch/api"
)

// 19.6: no message faults (W1); that a fault is told is looked at from inside.
func TestFaulted(t *testing.T) {
	for why := api.FaultPlace; why <= api.FaultSub; why++ {
		s := &shell{}
		s.tellResult(api.Message{Make: true}, api.Result{Status: api.Faulted, Why: why, Steps: 9})
		want := "faulted 1" + string([]byte{byte('0' + why/10%10), byte('0' + why%10)}) + " left 0 back 0 steps 9\n"
		if got := s.told.String(); got != want {
			t.Errorf("%q, not %q", got, want)
		}
	}
}

// 19.3: the engine is Checked at first, and what the last line that was taken says; both tell alike (W2), so it is looked at from inside.
func TestEngineOfShell(t *testing.T) {
	s := &shell{engine: api.Checked, commands: commands()}
	for i, x := range []struct {
		line string
		want int
	}{
		{"", api.Checked}, {"engine fast", api.Fast}, {"engine fast", api.Fast}, {"engine", api.Fast}, {"engine checked", api.Checked}, {"engine Fast", api.Checked}, {"engine fast fast", api.Checked}, {"engine fast", api.Fast}, {"engine checked 1", api.Fast}, {"engine 1", api.Fast}, {"block 1 1 1 1 1 1 1 1", api.Fast}, {"call 1 1 0 0 0x", api.Fast}, {"trace 1 1 1 0 0 0x", api.Fast}, {"drop 1", api.Fast}, {"engine checked", api.Checked},
	} {
		if s.do(i+1, x.line); s.engine != x.want {
			t.Errorf("behind %q the engine is %d, not %d", x.line, s.engine, x.want)
		}
	}
}
