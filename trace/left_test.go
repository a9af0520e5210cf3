package trace_test

import (
	"iter"
	"runtime"
	"slices"
	"sync"
	"testing"

	"vouch/api"
)

// places are steps at which a loop of so many is left: the first ones, some in the midst, the last ones.
func places(many int) []int {
	var l []int
	for i := 1; i <= many; i++ {
		if i < 30 || i > many-5 || i%97 == 0 {
			l = append(l, i)
		}
	}
	return l
}

// 17.2, W14: a loop that is left at the first step, in the midst, at the last step: what was told is that far the same, and nothing more is told; whoever is asked without a loop is not called again either.
func TestLeft(t *testing.T) {
	were := runtime.NumGoroutine()
	for _, x := range samples() {
		seq := x.followed(t)
		want, _ := x.byHand(t, api.Checked)
		for _, many := range places(len(want)) {
			alike(t, x.name, first(seq, many), want[:many])
			var told []api.Seen
			seq(func(s api.Seen) bool {
				told = append(told, s)
				return len(told) < many
			})
			alike(t, x.name, told, want[:many])
		}
		alike(t, x.name, first(seq, len(want)+1), want)
		noneLeft(t, x.name, were)
	}
}

// endless is a message whose run goes on for millions of steps.
func endless() ask {
	return ask{l: list(rich, at(b, 0, coded(again))), m: from(api.MaxGas)}
}

// 17.2, R4: a loop may be left in every way that the language has.
func TestWaysToLeave(t *testing.T) {
	were := runtime.NumGoroutine()
	seq := endless().followed(t)
	third := api.Seen{Self: b, Code: 0xe0, Left: api.MaxGas - 4}
	for name, way := range map[string]func(seen *[]api.Seen){
		"break": func(seen *[]api.Seen) {
			for x := range seq {
				if *seen = append(*seen, x); len(*seen) == 3 {
					break
				}
			}
		},
		"return": func(seen *[]api.Seen) {
			for x := range seq {
				if *seen = append(*seen, x); len(*seen) == 3 {
					return
				}
			}
		},
		"a loop around it": func(seen *[]api.Seen) {
		around:
			for i := range 3 {
				for x := range seq {
					if i == 2 {
						*seen = append(*seen, x)
					}
					if i < 2 || len(*seen) == 3 {
						continue around
					}
				}
			}
		},
		"goto": func(seen *[]api.Seen) {
			for x := range seq {
				if *seen = append(*seen, x); len(*seen) == 3 {
					goto out
				}
			}
		out:
		},
		"panic": func(seen *[]api.Seen) {
			defer func() {
				if recover() != "enough" {
					t.Error("the panic is another one")
				}
			}()
			for x := range seq {
				if *seen = append(*seen, x); len(*seen) == 3 {
					panic("enough")
				}
			}
		},
		"the end of a goroutine": func(seen *[]api.Seen) {
			var all sync.WaitGroup
			all.Go(func() {
				for x := range seq {
					if *seen = append(*seen, x); len(*seen) == 3 {
						runtime.Goexit()
					}
				}
			})
			all.Wait()
		},
		"a pull that stops": func(seen *[]api.Seen) {
			next, stops := iter.Pull(seq)
			defer stops()
			for range 3 {
				x, _ := next()
				*seen = append(*seen, x)
			}
		},
	} {
		var seen []api.Seen
		way(&seen)
		if len(seen) != 3 || seen[2] != third {
			t.Errorf("%s: %+v", name, seen)
		}
		if atWork() {
			t.Errorf("%s: the run goes on", name)
		}
		noneLeft(t, name, were)
	}
}

// 17.4: no goroutine is left when a loop has ended; nor of many that are left early, one behind the other and one within the other.
func TestNoGoroutineIsLeft(t *testing.T) {
	were := runtime.NumGoroutine()
	seq := endless().followed(t)
	for i := range 3000 {
		if got := len(first(seq, 1+i%4)); got != 1+i%4 {
			t.Fatalf("loop %d: %d steps", i, got)
		}
		if i%100 == 0 {
			noneLeft(t, i, were)
		}
	}
	noneLeft(t, "left early", were)
	var within func(deep int)
	within = func(deep int) {
		for range seq {
			if deep > 0 {
				within(deep - 1)
			}
			break
		}
	}
	within(200)
	noneLeft(t, "within one another", were)
	for _, x := range samples() {
		for range 20 {
			for range x.followed(t) {
			}
		}
		noneLeft(t, x.name, were)
	}
}

// 17.1, 17.4: to ask for a sequence begins nothing: what is not ranged over has no goroutine.
func TestNotRangedOver(t *testing.T) {
	were := runtime.NumGoroutine()
	var all []iter.Seq[api.Seen]
	for range 100 {
		all = append(all, endless().followed(t))
	}
	noneLeft(t, "not ranged over", were)
	for _, seq := range all {
		if got := first(seq, 2); len(got) != 2 {
			t.Errorf("%+v", got)
		}
	}
	noneLeft(t, "ranged over", were)
}

// 17.4, R4: when a loop was left, nothing goes on behind it, though the step that was told last takes its time: it hashes as much memory as there may be.
func TestJoined(t *testing.T) {
	hashes := join(pushed(n(0), n(api.MaxMemory)), raw("20 50 00"))
	seq := ask{l: list(rich, at(b, 0, coded(hashes))), m: from(api.MaxGas)}.followed(t)
	for range 3 {
		for x := range seq {
			if x.Code == 0x20 {
				break
			}
		}
		if atWork() {
			t.Fatal("the loop was left, and the run goes on")
		}
		func() {
			defer func() { recover() }()
			for x := range seq {
				if x.Code == 0x20 {
					panic("left")
				}
			}
		}()
		if atWork() {
			t.Fatal("the loop was left by a panic, and the run goes on")
		}
	}
	if got := slices.Collect(seq); len(got) != 5 || atWork() {
		t.Errorf("%+v", got)
	}
}
