package valid_test

import (
	"bytes"
	"fmt"
	"slices"
	"testing"

	"vouch/api"
	"vouch/container"
	"vouch/valid"
)

// same: do two codes tell the same, as far as each is asked?
func same(x, y *valid.Code) bool {
	if !bytes.Equal(x.Bytes(), y.Bytes()) || x.Kind() != y.Kind() || x.Sections() != y.Sections() || x.Subs() != y.Subs() || !bytes.Equal(x.Data(), y.Data()) {
		return false
	}
	for s := range x.Sections() {
		a, _ := x.Type(s)
		b, _ := y.Type(s)
		if a != b || !bytes.Equal(x.Section(s), y.Section(s)) || !slices.Equal(x.Heights(s), y.Heights(s)) {
			return false
		}
	}
	for n := range x.Subs() {
		_, a := x.Sub(n)
		_, b := y.Sub(n)
		_, c := x.Lay(n, nil)
		_, d := y.Lay(n, nil)
		if a != b || c != d {
			return false
		}
	}
	return true
}

// wantCode: the code is that of these bytes as this kind, as Validate would answer it.
func wantCode(t *testing.T, what string, x *valid.Code, wrong api.Errno, b []byte, kind int) {
	t.Helper()
	if wrong != api.OK || x == nil {
		t.Fatalf("%s: %v", what, wrong)
	}
	y, no := valid.Validate(b, kind)
	if no.Code != api.OK {
		t.Fatalf("%s: Validate(%x): %+v", what, b, no)
	}
	if !bytes.Equal(x.Bytes(), b) || !same(x, y) {
		t.Fatalf("%s: the code of %x, want of %x", what, x.Bytes(), b)
	}
}

// noCode: there is no code, but this error.
func noCode(t *testing.T, what string, x *valid.Code, wrong, want api.Errno) {
	t.Helper()
	if x != nil || wrong != want {
		t.Errorf("%s: %v, %v, want %v", what, x != nil, wrong, want)
	}
}

// 8.4, 8.5: numbers that are not there, and those that the other kind of instruction names.
func TestNoSuchSub(t *testing.T) {
	for _, c := range []api.Container{uses(4, []int{0, 2}, []int{1, 3}), uses(2, []int{0, 1}, nil), uses(2, nil, []int{0, 1}), stuck()} {
		x := validCode(t, c, api.Init)
		for _, n := range wrongNumbers(len(c.Subs)) {
			sub, wrong := x.Sub(n)
			noCode(t, fmt.Sprint("Sub ", n), sub, wrong, api.ErrSub)
			for _, behind := range [][]byte{nil, {1}, make([]byte, 70000)} {
				laid, wrong := x.Lay(n, behind)
				noCode(t, fmt.Sprint("Lay ", n), laid, wrong, api.ErrSub)
			}
		}
	}
	x := validCode(t, uses(4, []int{0, 2}, []int{1, 3}), api.Init)
	for n := range 4 {
		sub, noSub := x.Sub(n)
		laid, noLaid := x.Lay(n, nil)
		if n%2 == 0 {
			wantCode(t, fmt.Sprint("Sub ", n), sub, noSub, bytesOf(stuck()), api.Init)
			noCode(t, fmt.Sprint("Lay ", n), laid, noLaid, api.ErrSub)
			long, noLong := x.Lay(n, make([]byte, 70000))
			noCode(t, fmt.Sprint("Lay ", n), long, noLong, api.ErrSub)
		} else {
			noCode(t, fmt.Sprint("Sub ", n), sub, noSub, api.ErrSub)
			wantCode(t, fmt.Sprint("Lay ", n), laid, noLaid, bytesOf(stuck()), api.Runtime)
		}
	}
}

// layer is the code of what lays c.
func layer(t *testing.T, c api.Container) *valid.Code {
	t.Helper()
	return validCode(t, with(of(typed(0, never, 2), "5f 5f ee 00"), bytesOf(c)), api.Init)
}

// 8.5: data at hand and behind, together shorter than, as long as and longer than is declared.
func TestLayLengths(t *testing.T) {
	for _, size := range []int{0, 1, 2, 40, 300} {
		for _, there := range []int{0, 1, size / 2, size - 1, size} {
			if there < 0 || there > size {
				continue
			}
			c := declared(stop(), size, there)
			x := layer(t, c)
			for _, more := range []int{0, 1, 2, size - there - 1, size - there, size - there + 1, size, 1000} {
				if more < 0 {
					continue
				}
				behind := slices.Repeat([]byte{0xbe}, more)
				what := fmt.Sprint(size, there, more)
				laid, wrong := x.Lay(0, behind)
				if there+more < size {
					noCode(t, what, laid, wrong, api.ErrCut)
					continue
				}
				c.Data, c.Size = slices.Concat(declared(c, size, there).Data, behind), there+more
				wantCode(t, what, laid, wrong, bytesOf(c), api.Runtime)
				if !bytes.Equal(laid.Data(), c.Data) {
					t.Errorf("%s: the data % x", what, laid.Data())
				}
			}
		}
	}
}

// 8.5: bytes at MaxDeploy and one above, by what lies behind, by the nested container itself, and by data too long for any container.
func TestLayLong(t *testing.T) {
	x := layer(t, stop())
	for _, n := range []int{api.MaxDeploy - 20, api.MaxDeploy - 21} {
		laid, wrong := x.Lay(0, make([]byte, n))
		c := declared(stop(), n, n)
		clear(c.Data)
		wantCode(t, fmt.Sprint(n), laid, wrong, bytesOf(c), api.Runtime)
		if len(laid.Bytes()) != n+20 {
			t.Errorf("%d bytes", len(laid.Bytes()))
		}
	}
	for _, n := range []int{api.MaxDeploy - 19, api.MaxDeploy - 18, api.MaxDeploy, 65535, 65536, 100000} {
		laid, wrong := x.Lay(0, make([]byte, n))
		noCode(t, fmt.Sprint(n), laid, wrong, api.ErrLong)
	}
	for _, n := range []int{api.MaxDeploy - 20, api.MaxDeploy - 19} {
		c := stop()
		c.Codes[0] = append(slices.Repeat([]byte{0x5b}, n), 0x00)
		laid, wrong := layer(t, c).Lay(0, nil)
		if n == api.MaxDeploy-20 {
			wantCode(t, fmt.Sprint("code of ", n), laid, wrong, bytesOf(c), api.Runtime)
		} else {
			noCode(t, fmt.Sprint("code of ", n), laid, wrong, api.ErrLong)
		}
	}
	// What chapter 5's Lay says comes ahead of how long the bytes are.
	long := declared(stop(), 60000, 100)
	laid, wrong := layer(t, long).Lay(0, make([]byte, 59899))
	noCode(t, "cut, and too long", laid, wrong, api.ErrCut)
	laid, wrong = layer(t, long).Lay(0, make([]byte, 59900))
	noCode(t, "too long", laid, wrong, api.ErrLong)
}

// 8.4: what is made may be longer than MaxDeploy.
func TestSubLong(t *testing.T) {
	c := declared(stuck(), 65535, 65535)
	x := validCode(t, with(of(typed(0, never, 4), "5f 5f 5f 5f ec 00 fe"), bytesOf(c)), api.Runtime)
	sub, wrong := x.Sub(0)
	wantCode(t, "Sub", sub, wrong, bytesOf(c), api.Init)
}

// 8.5: what the code of a container that is laid reads of its data stays within them.
func TestLayData(t *testing.T) {
	c := declared(of(typed(0, never, 1), "d1 0008 00"), 40, 0)
	x := layer(t, c)
	for _, n := range []int{39, 40, 41, 900} {
		laid, wrong := x.Lay(0, make([]byte, n))
		if n < 40 {
			noCode(t, fmt.Sprint(n), laid, wrong, api.ErrCut)
			continue
		}
		full := declared(c, n, n)
		clear(full.Data)
		wantCode(t, fmt.Sprint(n), laid, wrong, bytesOf(full), api.Runtime)
	}
}

// inward asks a code, and all that it tells, for what is nested in it: each is what Validate would answer.
func inward(t *testing.T, x *valid.Code, c api.Container, met map[string]int) {
	for n, b := range c.Subs {
		inner, _ := container.Parse(b, true)
		if sub, wrong := x.Sub(n); wrong == api.OK {
			met["made"]++
			wantCode(t, "Sub", sub, wrong, b, api.Init)
			inward(t, sub, inner, met)
		}
		behind := slices.Repeat([]byte{0xbe}, inner.Size-len(inner.Data)+len(b)%3)
		if laid, wrong := x.Lay(n, behind); wrong == api.OK {
			met["laid"]++
			inner.Data = append(inner.Data, behind...)
			inner.Size = len(inner.Data)
			wantCode(t, "Lay", laid, wrong, bytesOf(inner), api.Runtime)
			inward(t, laid, inner, met)
		}
	}
}

// 8.4 to 8.6: over drawn containers, to their innermost: each nested one is made or laid, and what comes of it is what Validate would answer.
func TestInward(t *testing.T) {
	d := chance(20)
	met := map[string]int{}
	all := 0
	for range 300 {
		c := drawn(d, api.Init, 3, false)
		all += len(c.Subs)
		inward(t, validCode(t, c, api.Init), c, met)
	}
	if met["made"] < 200 || met["laid"] < 200 || met["made"]+met["laid"] < all {
		t.Errorf("%v of %d", met, all)
	}
}
