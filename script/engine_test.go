package script_test

import (
	"bytes"
	"fmt"
	"runtime"
	"testing"
	"time"

	"vouch/api"
	"vouch/script"
)

// during runs a script, and looks meanwhile which of these stand in what goes on.
func during(text string, names ...string) []bool {
	done := make(chan string)
	go func() { done <- script.Run(text) }()
	found := make([]bool, len(names))
	stacks := make([]byte, 1<<18)
	for {
		select {
		case <-done:
			return found
		case <-time.After(500 * time.Microsecond):
		}
		now := stacks[:runtime.Stack(stacks, true)]
		for i, name := range names {
			found[i] = found[i] || bytes.Contains(now, []byte(name))
		}
	}
}

// 19.3: messages run by the machine that `engine` says, at first the checked one; `trace` by that one always.
func TestMachineAtWork(t *testing.T) {
	hash := join(pushed(n(0), n(api.MaxMemory)), raw("20 50")) // a step that takes its time: what looks on gets its turn within it
	start := lines(account(at(b, 1, coded(hash, stop)))...)
	call, still, trace := "call 0xa 0xb 0 40000000 0x", "still 0xa 0xb 40000000 0x", "trace 10 0xa 0xb 0 40000000 0x\n"
	for _, x := range []struct {
		text    string
		checked bool
	}{
		{call, true}, {still, true}, {"engine checked\n" + call, true}, {"engine fast\n" + call, false}, {"engine fast\n" + still, false},
		{"engine fast\nengine checked\n" + call, true}, {"engine checked\nengine fast\nengine frob\nengine\n" + still, false},
		{trace, true}, {"engine fast\n" + trace, true},
	} {
		found := []bool{false, false}
		for range 50 { // what goes on is looked at now and then
			now := during(start+x.text, "vouch/step.", "vouch/fast.")
			found[0], found[1] = found[0] || now[0], found[1] || now[1]
			if found[0] || found[1] {
				break
			}
		}
		if found[0] != x.checked || found[1] == x.checked {
			t.Errorf("%s: the checked machine %v, the fast one %v", fmt.Sprintf("%.60q", x.text), found[0], found[1])
		}
	}
}
