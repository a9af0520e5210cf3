package container_test

import (
	"slices"
	"testing"

	"vouch/api"
	"vouch/container"
)

// wantLaid: Lay answers the container with both data, or just this error.
func wantLaid(t *testing.T, c api.Container, behind []byte, want api.Errno) {
	t.Helper()
	got, wrong := container.Lay(c, behind)
	if want != api.OK {
		if wrong != want || !same(got, api.Container{}) {
			t.Fatalf("Lay(Size %d, %d bytes, and %d): %v, want %v; with a container: %v", c.Size, len(c.Data), len(behind), wrong, want, !same(got, api.Container{}))
		}
		return
	}
	model := c
	model.Data = slices.Concat(c.Data, behind)
	model.Size = len(model.Data)
	if wrong != api.OK || !same(got, model) {
		t.Fatalf("Lay(Size %d, %d bytes, and %d): %v, Size %d, %d bytes", c.Size, len(c.Data), len(behind), wrong, got.Size, len(got.Data))
	}
	wantBytes(t, got)
}

// 5.4: data and what is laid behind them, in one piece and in two, about Size and about 65535.
func TestLayLengths(t *testing.T) {
	for _, size := range []int{0, 1, 2, 3, 300, 65534, 65535} {
		for _, total := range []int{size - 2, size - 1, size, size + 1, size + 2, 65534, 65535, 65536, 65537, 70000, 200000} {
			for _, data := range []int{0, 1, 2, total / 2, total - 1, total, size - 1, size} {
				if data < 0 || data > size || data > total {
					continue
				}
				want := api.OK
				switch {
				case total < size:
					want = api.ErrCut
				case total > 65535:
					want = api.ErrLong
				}
				wantLaid(t, made([]int{2, 1}, []int{5}, data, size), row(9, total-data), want)
			}
		}
	}
}

// 5.4: of a container of every form.
func TestLayForms(t *testing.T) {
	for _, c := range forms() {
		lacks := c.Size - len(c.Data)
		wantLaid(t, c, row(8, lacks), api.OK)
		if lacks > 0 {
			wantLaid(t, c, row(8, lacks-1), api.ErrCut)
		}
		wantLaid(t, c, row(8, 65535-len(c.Data)), api.OK)
		wantLaid(t, c, row(8, 65536-len(c.Data)), api.ErrLong)
	}
}

// 5.4, R2: what Check says comes ahead of all else.
func TestLayChecks(t *testing.T) {
	for _, x := range breaks() {
		for _, behind := range []int{0, 1, 3, 70000} {
			c := made([]int{1, 2, 3}, []int{4, 5}, 2, 3)
			x.turn(&c)
			wantLaid(t, c, row(8, behind), x.wrong)
		}
	}
	wantLaid(t, api.Container{}, nil, api.ErrCodes)
	wantLaid(t, made([]int{1}, nil, 0, 65536), row(1, 65536), api.ErrLong)
	wantLaid(t, made([]int{1}, nil, 2, 1), nil, api.ErrArg)
}

// 5.4: what is laid in two goes is what is laid in one.
func TestLayInTwo(t *testing.T) {
	for _, c := range small() {
		c.Data, c.Size = row(1, 4), 4
		whole := row(7, 40)
		want, wrong := container.Lay(c, whole)
		if wrong != api.OK {
			t.Fatal(wrong)
		}
		for cut := range len(whole) + 1 {
			first, wrong := container.Lay(c, whole[:cut])
			second, other := container.Lay(first, whole[cut:])
			if wrong != api.OK || other != api.OK || !same(second, want) {
				t.Fatalf("in two, at %d: %v %v", cut, wrong, other)
			}
		}
	}
}
