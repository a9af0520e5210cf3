package container_test

import (
	"testing"

	"vouch/api"
	"vouch/container"
)

const (
	begin     = "ef0001"
	sections  = begin + "010004"
	lengths   = sections + "0200010001"
	leastText = lengths + "ff000000 00800000 00"
	openText  = lengths + "ff000200 00800000 00"
)

// 5.3: the rows of 'Examples' that are refused, open or not.
func TestExamplesRefused(t *testing.T) {
	for _, x := range []struct {
		text  string
		wrong api.Errno
		at    int
	}{
		{"", api.ErrCut, 0},
		{"ef", api.ErrCut, 1},
		{"ee", api.ErrMagic, 0},
		{"ef01", api.ErrMagic, 1},
		{"ef0002", api.ErrVersion, 2},
		{begin + "03", api.ErrKind, 3},
		{begin + "01 00", api.ErrCut, 5},
		{begin + "01 0005", api.ErrTypes, 4},
		{begin + "01 1004", api.ErrTypes, 4},
		{sections + "020002", api.ErrCodes, 7},
		{sections + "0200010000", api.ErrNone, 9},
		{lengths + "04", api.ErrKind, 11},
		{lengths + "030000", api.ErrSubs, 12},
		{lengths + "030001 00000000", api.ErrNone, 14},
		{leastText[:len(leastText)-2], api.ErrCut, 19},
		{leastText + "00", api.ErrTail, 20},
		{lengths + "ff000000 01800000 00", api.ErrType, 15},
		{lengths + "ff000000 007f0000 00", api.ErrType, 16},
		{lengths + "ff000000 00800400 00", api.ErrType, 17},
		{openText + "070809", api.ErrTail, 22},
	} {
		wantRefused(t, raw(x.text), false, x.wrong, x.at)
		wantRefused(t, raw(x.text), true, x.wrong, x.at)
	}
}

// 5.3: the rows that are taken, and the one that is taken open alone.
func TestExamplesTaken(t *testing.T) {
	if len(raw(leastText)) != 20 {
		t.Fatal("the least container has 20 bytes")
	}
	wantTaken(t, raw(leastText), false, least())
	wantTaken(t, raw(leastText), true, least())
	wantRefused(t, raw(openText), false, api.ErrCut, 20)
	wantTaken(t, raw(openText), true, with(func(c *api.Container) { c.Size = 2 }))
}

// 5.1, 5.4: the rows of Check and Lay.
func TestExamplesOfContainers(t *testing.T) {
	wantCheck(t, "no section", api.Container{}, api.ErrCodes)
	wantCheck(t, "a Code without Types", api.Container{Codes: [][]byte{{0}}}, api.ErrTypes)
	wantCheck(t, "Size 1, Data 07 08", with(func(c *api.Container) { c.Size, c.Data = 1, []byte{7, 8} }), api.ErrArg)
	c, wrong := container.Lay(least(), []byte{7, 8})
	if wrong != api.OK || !same(c, with(func(c *api.Container) { c.Size, c.Data = 2, []byte{7, 8} })) {
		t.Errorf("Lay of the least one: %+v %v", c, wrong)
	}
	if n, wrong := container.Size(c); n != 22 || wrong != api.OK {
		t.Errorf("%d bytes, %v", n, wrong)
	}
	c, wrong = container.Lay(with(func(c *api.Container) { c.Size = 2 }), []byte{7})
	if wrong != api.ErrCut || !same(c, api.Container{}) {
		t.Errorf("Lay of the one with Size 2: %+v %v", c, wrong)
	}
}
