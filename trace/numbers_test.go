package trace_test

import (
	"slices"
	"testing"

	"vouch/api"
	"vouch/call"
)

// tells: a message that is taken is told so.
func tells(t *testing.T, what string, x ask, want ...api.Seen) {
	t.Helper()
	alike(t, what, slices.Collect(x.followed(t)), want)
}

// 17.2, in numbers: all fields, through the frames of each kind of call.
func TestCallsInNumbers(t *testing.T) {
	on := at(c, 0, coded(raw("5b 00")))
	x := ask{l: list(rich, at(b, 5, coded(calls(c, 1), drop, stop)), on), m: from(50000)}
	tells(t, "EXTCALL", x,
		api.Seen{Self: b, At: 0, Code: 0x60, Left: 50000},
		api.Seen{Self: b, At: 2, Code: 0x5f, Height: 1, Left: 49997},
		api.Seen{Self: b, At: 3, Code: 0x5f, Height: 2, Left: 49995},
		api.Seen{Self: b, At: 4, Code: 0x60, Height: 3, Left: 49993},
		api.Seen{Self: b, At: 6, Code: 0xf8, Height: 4, Left: 49990},
		api.Seen{Depth: 1, Self: c, At: 0, Code: 0x5b, Left: 33390}, // 100, 2500 and 9000 were paid, 5000 stay
		api.Seen{Depth: 1, Self: c, At: 1, Code: 0x00, Left: 33389},
		api.Seen{Self: b, At: 7, Code: 0x50, Height: 1, Left: 38389},
		api.Seen{Self: b, At: 8, Code: 0x00, Left: 38387})
	x = ask{l: list(rich, at(b, 0, coded(lends(c), drop, stop)), on), m: from(20000)}
	tells(t, "EXTDELEGATECALL", x,
		api.Seen{Self: b, At: 0, Code: 0x5f, Left: 20000},
		api.Seen{Self: b, At: 1, Code: 0x5f, Height: 1, Left: 19998},
		api.Seen{Self: b, At: 2, Code: 0x60, Height: 2, Left: 19996},
		api.Seen{Self: b, At: 4, Code: 0xf9, Height: 3, Left: 19993},
		api.Seen{Depth: 1, Self: b, At: 0, Code: 0x5b, Left: 12393},
		api.Seen{Depth: 1, Self: b, At: 1, Code: 0x00, Left: 12392},
		api.Seen{Self: b, At: 5, Code: 0x50, Height: 1, Left: 17392},
		api.Seen{Self: b, At: 6, Code: 0x00, Left: 17390})
	x = ask{l: list(rich, at(b, 0, coded(stills(c), drop, stop)), at(c, 0, coded(raw("5f 5f 55 00")))), m: from(20000)}
	tells(t, "EXTSTATICCALL of what may not be", x,
		api.Seen{Self: b, At: 0, Code: 0x5f, Left: 20000},
		api.Seen{Self: b, At: 1, Code: 0x5f, Height: 1, Left: 19998},
		api.Seen{Self: b, At: 2, Code: 0x60, Height: 2, Left: 19996},
		api.Seen{Self: b, At: 4, Code: 0xfb, Height: 3, Left: 19993},
		api.Seen{Depth: 1, Self: c, At: 0, Code: 0x5f, Left: 12393},
		api.Seen{Depth: 1, Self: c, At: 1, Code: 0x5f, Height: 1, Left: 12391},
		api.Seen{Depth: 1, Self: c, At: 2, Code: 0x55, Height: 2, Left: 12389},
		api.Seen{Self: b, At: 5, Code: 0x50, Height: 1, Left: 5000},
		api.Seen{Self: b, At: 6, Code: 0x00, Left: 4998})
}

// 17.2, in numbers: calls that are answered without a frame are one step, as any other.
func TestNoFrameInNumbers(t *testing.T) {
	x := ask{l: list(rich, at(b, 0, coded(calls(e, 0), drop, calls(e, 1), raw("00")))), m: from(20000)}
	tells(t, "nobody, and a value that is not there", x,
		api.Seen{Self: b, At: 0, Code: 0x5f, Left: 20000},
		api.Seen{Self: b, At: 1, Code: 0x5f, Height: 1, Left: 19998},
		api.Seen{Self: b, At: 2, Code: 0x5f, Height: 2, Left: 19996},
		api.Seen{Self: b, At: 3, Code: 0x60, Height: 3, Left: 19994},
		api.Seen{Self: b, At: 5, Code: 0xf8, Height: 4, Left: 19991},
		api.Seen{Self: b, At: 6, Code: 0x50, Height: 1, Left: 17391},
		api.Seen{Self: b, At: 7, Code: 0x60, Left: 17389},
		api.Seen{Self: b, At: 9, Code: 0x5f, Height: 1, Left: 17386},
		api.Seen{Self: b, At: 10, Code: 0x5f, Height: 2, Left: 17384},
		api.Seen{Self: b, At: 11, Code: 0x60, Height: 3, Left: 17382},
		api.Seen{Self: b, At: 13, Code: 0xf8, Height: 4, Left: 17379}) // 100 and 9000 are paid, the 25000 are not there
}

// 17.2, in numbers: an account that is made by a frame; one that is made by the message.
func TestMakingInNumbers(t *testing.T) {
	x := ask{l: list(rich, at(b, 5, with(nest(maker()), makes(0, 1, 2), drop, stop))), m: from(100000)}
	fresh := call.Made(b, n(2))
	tells(t, "EOFCREATE", x,
		api.Seen{Self: b, At: 0, Code: 0x5f, Left: 100000},
		api.Seen{Self: b, At: 1, Code: 0x5f, Height: 1, Left: 99998},
		api.Seen{Self: b, At: 2, Code: 0x60, Height: 2, Left: 99996},
		api.Seen{Self: b, At: 4, Code: 0x60, Height: 3, Left: 99993},
		api.Seen{Self: b, At: 6, Code: 0xec, Height: 4, Left: 99990},
		api.Seen{Depth: 1, Self: fresh, At: 0, Code: 0x5f, Left: 66916}, // 32000 and 12 were paid, a 64th stays: 1062
		api.Seen{Depth: 1, Self: fresh, At: 1, Code: 0x5f, Height: 1, Left: 66914},
		api.Seen{Depth: 1, Self: fresh, At: 2, Code: 0xee, Height: 2, Left: 66912},
		api.Seen{Self: b, At: 8, Code: 0x50, Height: 1, Left: 63974}, // 4000 were paid for 20 bytes
		api.Seen{Self: b, At: 9, Code: 0x00, Left: 63972})
	x = ask{l: list(rich), m: making(maker(), 5000)}
	fresh = call.Made(a, n(0))
	tells(t, "a message that makes an account", x,
		api.Seen{Self: fresh, At: 0, Code: 0x5f, Left: 5000},
		api.Seen{Self: fresh, At: 1, Code: 0x5f, Height: 1, Left: 4998},
		api.Seen{Self: fresh, At: 2, Code: 0xee, Height: 2, Left: 4996})
}

// 17.2, in numbers: sections that are called, that are jumped to, and that return; jumps within one.
func TestSectionsInNumbers(t *testing.T) {
	x := ask{l: list(at(b, 0, sections())), m: from(500)}
	tells(t, "sections", x,
		api.Seen{Self: b, Section: 0, At: 0, Code: 0x60, Left: 500},
		api.Seen{Self: b, Section: 0, At: 2, Code: 0xe3, Height: 1, Left: 497},
		api.Seen{Self: b, Section: 1, At: 0, Code: 0x60, Height: 1, Left: 492},
		api.Seen{Self: b, Section: 1, At: 2, Code: 0x02, Height: 2, Left: 489},
		api.Seen{Self: b, Section: 1, At: 3, Code: 0xe4, Height: 1, Left: 484},
		api.Seen{Self: b, Section: 0, At: 5, Code: 0x50, Height: 1, Left: 481},
		api.Seen{Self: b, Section: 0, At: 6, Code: 0xe5, Left: 479},
		api.Seen{Self: b, Section: 2, At: 0, Code: 0xe3, Left: 474},
		api.Seen{Self: b, Section: 3, At: 0, Code: 0x5b, Left: 469},
		api.Seen{Self: b, Section: 3, At: 1, Code: 0xe4, Left: 468},
		api.Seen{Self: b, Section: 2, At: 3, Code: 0x5f, Left: 465},
		api.Seen{Self: b, Section: 2, At: 4, Code: 0xe1, Height: 1, Left: 463},
		api.Seen{Self: b, Section: 2, At: 7, Code: 0x5b, Left: 459},
		api.Seen{Self: b, Section: 2, At: 8, Code: 0x00, Left: 458})
}

// 17.2, in numbers: ends that are no good ones are told as the step that comes, and nothing behind it.
func TestEndsInNumbers(t *testing.T) {
	of := func(code []byte, gas uint64) ask { return ask{l: list(rich, at(b, 0, code)), m: from(gas)} }
	tells(t, "REVERT", of(coded(raw("6001 5f fd")), 50),
		api.Seen{Self: b, At: 0, Code: 0x60, Left: 50},
		api.Seen{Self: b, At: 2, Code: 0x5f, Height: 1, Left: 47},
		api.Seen{Self: b, At: 3, Code: 0xfd, Height: 2, Left: 45})
	tells(t, "INVALID", of(coded(raw("5f fe")), 50),
		api.Seen{Self: b, At: 0, Code: 0x5f, Left: 50},
		api.Seen{Self: b, At: 1, Code: 0xfe, Height: 1, Left: 48})
	tells(t, "no gas at all", of(coded(raw("5f 50 00")), 0), api.Seen{Self: b, Code: 0x5f})
	tells(t, "no gas within a step", of(coded(raw("6020 51 50 00")), 8), // memory of two words costs 6
		api.Seen{Self: b, At: 0, Code: 0x60, Left: 8},
		api.Seen{Self: b, At: 2, Code: 0x51, Height: 1, Left: 5})
	round := fitted([]api.Type{{}}, nil, nil, raw("e30001 00"), raw("5f e30001 50 e4"))
	seen := slices.Collect(of(round, 50000).followed(t))
	last := api.Seen{Self: b, Section: 1, At: 1, Code: 0xe3, Height: 1024, Left: 50000 - 5 - 2*1024 - 5*1023}
	if len(seen) != 2049 || seen[2048] != last { // two steps a turn, ahead of them one
		t.Errorf("HaltRoom: %d steps, the last one %+v", len(seen), seen[len(seen)-1])
	}
}
