package world_test

import (
	"fmt"
	"math"

	"vouch/api"
)

// call is one call, with what it is given: made at a world, it tells what was answered.
type call struct {
	name string
	make func(x asked) any
}

func errnoCall(make func(x asked) api.Errno, name string, l ...any) call {
	return call{fmt.Sprintf(name, l...), func(x asked) any { return make(x) }}
}

func silentCall(make func(x asked), name string, l ...any) call {
	return call{fmt.Sprintf(name, l...), func(x asked) any { make(x); return nil }}
}

// span is between which numbers the marks are that are gone back to, or forgotten.
type span struct{ low, high int }

// upTo is a span in which some are marks, of about so many, and some are not.
func upTo(marks int) span { return span{-1, marks + 1} }

// drawCall draws any call that changes something, but Begin.
func drawCall(d drawing, marks span) call {
	a, b, k, v := d.address(), d.address(), d.key(), d.value()
	switch d.IntN(26) {
	case 0, 1:
		return errnoCall(func(x asked) api.Errno { return x.Move(a, b, v) }, "Move(%x, %x, %x)", a, b, v)
	case 2:
		return errnoCall(func(x asked) api.Errno { return x.Move(a, b, x.Balance(a)) }, "Move(%x, %x, all)", a, b)
	case 3:
		return errnoCall(func(x asked) api.Errno { return x.Take(a, v) }, "Take(%x, %x)", a, v)
	case 4:
		return errnoCall(func(x asked) api.Errno { return x.Put(a, v) }, "Put(%x, %x)", a, v)
	case 5, 6:
		return errnoCall(func(x asked) api.Errno { return x.Raise(a) }, "Raise(%x)", a)
	case 7, 8:
		return errnoCall(func(x asked) api.Errno { return x.Make(a) }, "Make(%x)", a)
	case 9, 10:
		c := pick(d, codes())
		return errnoCall(func(x asked) api.Errno { return x.Lay(a, c) }, "Lay(%x, %p)", a, c)
	case 11, 12, 13:
		return silentCall(func(x asked) { x.Set(a, k, v) }, "Set(%x, %x, %x)", a, k, v)
	case 14, 15:
		return silentCall(func(x asked) { x.TSet(a, k, v) }, "TSet(%x, %x, %x)", a, k, v)
	case 16, 17:
		return call{fmt.Sprintf("Warm(%x)", a), func(x asked) any { return x.Warm(a) }}
	case 18, 19:
		return call{fmt.Sprintf("WarmSlot(%x, %x)", a, k), func(x asked) any { return x.WarmSlot(a, k) }}
	case 20:
		l := drawLog(d)
		return silentCall(func(x asked) { x.Tell(l) }, "Tell(%x)", l)
	case 21:
		owed := drawOwed(d)
		return errnoCall(func(x asked) api.Errno { return x.Owe(owed) }, "Owe(%d)", owed)
	}
	return drawMark(d, marks)
}

// drawMark draws a Mark, a Back or a Forget, some of them of no mark.
func drawMark(d drawing, marks span) call {
	mark := marks.low + d.IntN(marks.high-marks.low+1)
	if d.IntN(20) == 0 {
		mark = pick(d, []int{math.MinInt, math.MaxInt, -1 << 32, 1 << 32})
	}
	switch d.IntN(5) {
	case 0:
		return errnoCall(func(x asked) api.Errno { return x.Back(mark) }, "Back(%d)", mark)
	case 1:
		return errnoCall(func(x asked) api.Errno { return x.Forget(mark) }, "Forget(%d)", mark)
	}
	return call{"Mark()", func(x asked) any { return x.Mark() }}
}

func drawBegin(d drawing) call {
	l := make([]api.Address, d.IntN(4))
	for i := range l {
		l[i] = d.address()
	}
	return silentCall(func(x asked) { x.Begin(l...) }, "Begin(%x)", l)
}

func drawLog(d drawing) api.Log {
	x := api.Log{Address: d.address(), Topics: make([]api.Word, d.IntN(7)), Data: make([]byte, d.IntN(5))}
	for i := range x.Topics {
		x.Topics[i] = d.value()
	}
	for i := range x.Data {
		x.Data[i] = byte(d.Uint32())
	}
	return x
}

func drawOwed(d drawing) int {
	if d.IntN(3) > 0 {
		return d.IntN(21) - 8
	}
	return pick(d, []int{1 << 62, 1<<62 - 1, 1<<62 + 1, -1 << 62, -1<<62 + 1, math.MaxInt, math.MinInt, 1 << 61})
}

// drawRow draws calls; one in so many is a Begin (0: none is).
func drawRow(d drawing, length int, marks span, begins int) []call {
	row := make([]call, length)
	for i := range row {
		row[i] = drawCall(d, marks)
		if begins > 0 && d.IntN(begins) == 0 {
			row[i] = drawBegin(d)
		}
	}
	return row
}

// answersOf makes all calls of a row, and tells what was answered.
func answersOf(x asked, row []call) []any {
	var l []any
	for _, c := range row {
		l = append(l, c.make(x))
	}
	return l
}
