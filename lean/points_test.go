package lean_test

import (
	"testing"

	"vouch/api"
	"vouch/lean"
)

// 20.3: what gets shorter moves the jumps that lead over it: forward, back, from within and from outside, and to what stands right behind it.
func TestMoved(t *testing.T) {
	becomes(t, "36 e1 0002 5b 00 fe", "36 e1 0001 00 fe")
	becomes(t, "36 e1 0003 5f 50 00 fe", "36 e1 0001 00 fe")
	becomes(t, "36 e1 0004 e0 0000 00 fe", "36 e1 0001 00 fe")
	becomes(t, "36 e1 0003 5b 5b 00 fe", "36 e1 0001 00 fe")
	becomes(t, "36 e1 0001 00 5b fe", "36 e1 0001 00 fe")
	becomes(t, "5b 36 e1 0001 00 fe", "36 e1 0001 00 fe")
	becomes(t, "36 50 5b 36 e1 fff9 00", "36 50 36 e1 fffa 00")
	becomes(t, "36 50 5f 50 5b 36 e1 fff7 5b 00", "36 50 36 e1 fffa 00")
	becomes(t, "36 50 7f"+"0000000000000000000000000000000000000000000000000000000000000000"+"50 36 e1 ffd8 00", "36 50 36 e1 fffa 00")
	becomes(t, "36 50 5b e0 fffa", "36 50 e0 fffb")
	becomes(t, "36 e1 0004 36 e0 0003 5b 36 5b 50 00", "36 e1 0004 36 e0 0001 36 50 00")
}

// 20.3: in an RJUMPV each distance is moved by what it leads over; its table and its first byte stay as long.
func TestMovedTable(t *testing.T) {
	becomes(t, "5b 36 50 36 e2 03 fff3 fff2 0002 0000 5b 00 5b fe", "36 50 36 e2 03 fff3 fff3 0001 0000 00 fe")
	becomes(t, "36 e2 02 0000 0002 0004 5b 00 5b 00 5b fe", "36 e2 02 0000 0001 0002 00 00 fe")
	becomes(t, "36 e2 02 0004 0002 0000 5b 00 5b 00 5b fe", "36 e2 02 0002 0001 0000 00 00 fe")
	becomes(t, "36 50 5b 36 50 5b 36 e2 02 fff1 fff3 fff4 fe", "36 50 36 50 36 e2 02 fff3 fff5 fff5 fe")
	wide := fit(raw("5b 36 e2 ff"), times("0001", 255), raw("0002 5b 00 5b fe"))
	turns(t, wide, fit(raw("36 e2 ff"), times("0000", 255), raw("0001 00 fe")))
}

// 20.3: the instructions' other immediate bytes stay, those too that look like something idle.
func TestImmediates(t *testing.T) {
	becomes(t, "5b 63 5b e0 00 00 62 5f 50 5b 01 35 50 00", "63 5b e0 00 00 62 5f 50 5b 01 35 50 00")
	c := high(with(of(typed(0, 0, 1, 0, 3, never, 0), "5b 36 36 36 e6 02 e7 01 e8 00 36 36 36 36 ec 01 e3 0001 5b e3 0001 36 36 36 36 ec 00 d1 0003 e5 0002", "5b 36 e4", "50 5b 50 50 fe"), stuck(), bytesOf(one(0, "5b fe"))))
	c.Size, c.Data = 40, raw("0102")
	want := copyOf(c)
	want.Codes = of(nil, "36 36 36 e6 02 e7 01 e8 00 36 36 36 36 ec 01 e3 0001 e3 0001 36 36 36 36 ec 00 d1 0003 e5 0002", "36 e4", "50 50 50 fe").Codes
	turns(t, c, want)
}

// 20.3: data, those that are not at hand too, how long they are declared to be, and nested containers are what they were, whatever is idle in these; nor are they asked for what is lean.
func TestRest(t *testing.T) {
	idle := bytesOf(one(0, "5b 00"))
	open := one(0, "5b 00")
	open.Size, open.Data = 9, raw("5b5b")
	for _, subs := range [][][]byte{{idle}, {stops(), idle}, {bytesOf(open), idle, stops()}} {
		text := ""
		for i := range subs {
			text += "36 e1 0004 5f 5f ee 0" + string(byte('0'+i)) + " "
		}
		for _, data := range [][]byte{nil, raw("5b"), raw("5f50e0000000")} {
			for _, more := range []int{0, 1, 300} {
				c := with(fit(raw(text), raw("fe")), subs...)
				c.Data, c.Size = data, len(data)+more
				if d := held(t, c, api.Init); !same(c, d) || !lean.Is(c, api.Init) {
					t.Errorf("%s: turned into %s", told(c), told(d))
				}
				c.Codes[0] = append(raw("5b"), c.Codes[0]...)
				if d := held(t, c, api.Init); len(d.Codes[0]) != len(c.Codes[0])-1 {
					t.Errorf("%s: turned into %s", told(c), told(d))
				}
			}
		}
	}
}

// 20.3: as many sections as there may be, each turned by itself, with its own In and Out.
func TestManySections(t *testing.T) {
	var c, want api.Container
	for s := range api.MaxSections {
		kind := api.Type{In: min(s, s%4), Out: never}
		next := s + 1
		end := join(times("5f", next%4), []byte{0xe5, byte(next >> 8), byte(next)})
		if next == api.MaxSections {
			end = raw("00")
		}
		c.Types, want.Types = append(c.Types, kind), append(want.Types, kind)
		c.Codes = append(c.Codes, join(raw("5b 36 5f 50 15"), end))
		want.Codes = append(want.Codes, join(raw("36 15"), end))
	}
	turns(t, high(c), high(want))
}
