package call

import (
	"vouch/api"
	"vouch/container"
	"vouch/fast"
	"vouch/step"
	"vouch/valid"
	"vouch/world"
)

// asker is who asks for a frame.
type asker struct {
	given api.Frame                            // without its Input: nobody else is given that
	sub   func(i int) (*valid.Code, api.Errno) // what an account is made with
}

// machine is the calls of either machine's run of a frame.
type machine struct {
	goOn  func(steps int) int
	state func() int
	asked func() (api.Ask, bool)
	give  func(x api.Reply) api.Errno
	ended func() (api.Ending, bool)
	sight func() api.Sight
}

// frame is one that stands.
type frame struct {
	asker
	machine
	code     *valid.Code
	sections [][]byte // the bytes of those that were looked at
	mark     int      // of the world, at its beginning
}

// machineOf begins a frame by an engine.
func machineOf(engine int, w *world.World, c *valid.Code, f api.Frame) machine {
	if engine == api.Fast {
		r, _ := fast.New(w, c, f)
		return machine{r.Go, r.State, r.Asked, r.Give, r.Ended, r.Sight}
	}
	whole, _ := container.Parse(c.Bytes(), false)
	r, _ := step.New(w, whole, f)
	return machine{r.Go, r.State, r.Asked, r.Give, r.Ended, r.Sight}
}

// byteAt is the byte that stands at a place. A code hands out a whole section: it is asked for each of them once.
func (f *frame) byteAt(section, at int) int {
	if f.sections == nil {
		f.sections = make([][]byte, f.code.Sections())
	}
	if f.sections[section] == nil {
		f.sections[section] = f.code.Section(section)
	}
	return int(f.sections[section][at])
}
