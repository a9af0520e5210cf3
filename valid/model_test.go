package valid_test

import (
	"encoding/hex"
	"fmt"
	"math/rand/v2"
	"slices"
	"strings"
	"testing"

	"vouch/api"
	"vouch/code"
	"vouch/container"
	"vouch/flow"
	"vouch/valid"
)

// never is Out of a section that never returns.
const never = api.NoReturn

// chance is a source of numbers that gives the same ones in every run.
func chance(seed uint64) *rand.Rand { return rand.New(rand.NewPCG(seed, 8)) }

// raw is bytes written in hexadecimal, with spaces or without.
func raw(text string) []byte {
	b, wrong := hex.DecodeString(strings.ReplaceAll(text, " ", ""))
	if wrong != nil {
		panic(wrong)
	}
	return b
}

// typed is types by their numbers, three of each.
func typed(numbers ...int) []api.Type {
	var types []api.Type
	for ; len(numbers) > 0; numbers = numbers[3:] {
		types = append(types, api.Type{In: numbers[0], Out: numbers[1], Most: numbers[2]})
	}
	return types
}

// of is a container with these types and sections.
func of(types []api.Type, codes ...string) api.Container {
	c := api.Container{Types: types}
	for _, text := range codes {
		c.Codes = append(c.Codes, raw(text))
	}
	return c
}

// stop is the least container that runs, and stuck the least one for both kinds.
func stop() api.Container  { return of(typed(0, never, 0), "00") }
func stuck() api.Container { return of(typed(0, never, 0), "fe") }

// with is the container with these nested in it.
func with(c api.Container, subs ...[]byte) api.Container {
	c.Subs = append(slices.Clone(c.Subs), subs...)
	return c
}

// declared is the container with data so long, of which so many are at hand.
func declared(c api.Container, size, there int) api.Container {
	c.Size, c.Data = size, slices.Repeat([]byte{0xda}, there)
	return c
}

// bytesOf is a container's bytes.
func bytesOf(c api.Container) []byte {
	b, wrong := container.Serialize(c)
	if wrong != api.OK {
		panic(wrong)
	}
	return b
}

// copied is the same container in memory of its own.
func copied(c api.Container) api.Container {
	own := api.Container{Types: slices.Clone(c.Types), Data: slices.Clone(c.Data), Size: c.Size}
	for _, b := range c.Codes {
		own.Codes = append(own.Codes, slices.Clone(b))
	}
	for _, b := range c.Subs {
		own.Subs = append(own.Subs, slices.Clone(b))
	}
	return own
}

// no is a refusal.
func no(wrong api.Errno, section, at int, path ...int) api.Reject {
	return api.Reject{Code: wrong, Path: path, Section: section, At: at}
}

// alike: do two refusals say the same?
func alike(a, b api.Reject) bool {
	return a.Code == b.Code && a.Section == b.Section && a.At == b.At && slices.Equal(a.Path, b.Path)
}

// fault is a part of a clause that is broken: rank says which comes first.
type fault struct {
	rank []int
	no   api.Reject
}

// first is the refusal that comes first of these.
func first(faults []fault) api.Reject {
	if len(faults) == 0 {
		return api.Reject{}
	}
	return slices.MinFunc(faults, func(a, b fault) int { return slices.Compare(a.rank, b.rank) }).no
}

// number is what the immediate bytes of an instruction are.
func number(i api.Instr) int {
	n := 0
	for _, x := range i.Imm {
		n = n<<8 | int(x)
	}
	return n
}

// leads are the places to which an instruction's jumps lead.
func leads(i api.Instr) []int {
	row := i.Imm
	switch i.Code {
	case 0xe0, 0xe1:
	case 0xe2:
		row = row[1:]
	default:
		return nil
	}
	var to []int
	for n := 0; n < len(row); n += 2 {
		distance := int(row[n])<<8 | int(row[n+1])
		if distance > 32767 {
			distance -= 65536
		}
		to = append(to, i.Next+distance)
	}
	return to
}

// modelNames is the parts of C2 that one instruction breaks, by their numbers in the clause.
func modelNames(c api.Container, kind, section int, i api.Instr, starts map[int]bool) map[int]api.Errno {
	broken := map[int]api.Errno{}
	own, named := c.Types[section].Out, number(i)
	if kind == api.Init && (i.Code == 0x00 || i.Code == 0xf3) || kind == api.Runtime && i.Code == 0xee {
		broken[0] = api.ErrBarred
	}
	for _, to := range leads(i) {
		if !starts[to] {
			broken[1] = api.ErrTarget
		}
	}
	if i.Code == 0xe3 || i.Code == 0xe5 {
		switch {
		case named >= len(c.Codes):
			broken[2] = api.ErrSection
		case i.Code == 0xe3 && c.Types[named].Out == never:
			broken[3] = api.ErrNever
		case i.Code == 0xe5 && own != never && c.Types[named].Out != never && c.Types[named].Out > own:
			broken[4] = api.ErrOuts
		case i.Code == 0xe5 && own == never && c.Types[named].Out != never:
			broken[5] = api.ErrNever
		}
	}
	if i.Code == 0xe4 && own == never {
		broken[6] = api.ErrNever
	}
	if i.Code == 0xd1 && named > c.Size-32 {
		broken[7] = api.ErrData
	}
	if (i.Code == 0xec || i.Code == 0xee) && named >= len(c.Subs) {
		broken[8] = api.ErrSub
	}
	return broken
}

// modelSection is all that C1 to C3 have against a section, as far as one can be asked where the one ahead of it is broken.
func modelSection(c api.Container, kind, section int) []fault {
	b := c.Codes[section]
	all, wrong, at := code.Scan(b)
	if wrong != api.OK {
		return []fault{{[]int{1, section, 1}, no(wrong, section, at)}}
	}
	var faults []fault
	starts := map[int]bool{}
	for _, i := range all {
		starts[i.At] = true
	}
	for _, i := range all {
		for part, wrong := range modelNames(c, kind, section, i, starts) {
			faults = append(faults, fault{[]int{1, section, 2, i.At, part}, no(wrong, section, i.At)})
		}
	}
	told, wrong, at := flow.Heights(c.Types, section, b)
	if wrong == api.ErrArg {
		return faults
	}
	if wrong != api.OK {
		return append(faults, fault{[]int{1, section, 3, 0}, no(wrong, section, at)})
	}
	greatest := 0
	for _, h := range told {
		greatest = max(greatest, h.Hi)
	}
	if greatest != c.Types[section].Most {
		faults = append(faults, fault{[]int{1, section, 3, 1}, no(api.ErrMost, section, 0)})
	}
	comesBack := slices.ContainsFunc(all, func(i api.Instr) bool {
		return i.Code == 0xe4 || i.Code == 0xe5 && c.Types[number(i)].Out != never
	})
	if c.Types[section].Out != never && !comesBack {
		faults = append(faults, fault{[]int{1, section, 3, 2}, no(api.ErrFlag, section, 0)})
	}
	return faults
}

// modelApart is what C4 has against a container: which sections are reached is found by going over all of them as often as there are some.
func modelApart(c api.Container) []fault {
	reached := map[int]bool{0: true}
	for range c.Codes {
		for s, b := range c.Codes {
			for i := range code.All(b) {
				if reached[s] && (i.Code == 0xe3 || i.Code == 0xe5) {
					reached[number(i)] = true
				}
			}
		}
	}
	var faults []fault
	for s := range c.Codes {
		if !reached[s] {
			faults = append(faults, fault{[]int{2, s}, no(api.ErrApart, s, 0)})
		}
	}
	return faults
}

// modelWithin is what C5 to C7 have against a container.
func modelWithin(c api.Container) []fault {
	names := map[int]map[int]int{}
	for _, b := range c.Codes {
		for i := range code.All(b) {
			if names[i.Code] == nil {
				names[i.Code] = map[int]int{}
			}
			names[i.Code][number(i)]++
		}
	}
	var faults []fault
	for n, b := range c.Subs {
		made, laid := names[0xec][n] > 0, names[0xee][n] > 0
		switch {
		case !made && !laid:
			faults = append(faults, fault{[]int{3, n}, no(api.ErrIdle, 0, 0, n)})
		case made && laid:
			faults = append(faults, fault{[]int{4, n}, no(api.ErrBoth, 0, 0, n)})
		case made:
			faults = append(faults, modelNested(n, b, false, api.Init)...)
		default:
			faults = append(faults, modelNested(n, b, true, api.Runtime)...)
		}
	}
	return faults
}

// modelNested is what C7 has against one nested container.
func modelNested(n int, b []byte, open bool, kind int) []fault {
	c, wrong := container.Parse(b, open)
	if wrong.Code == api.OK {
		wrong = modelJudge(c, kind)
	}
	if wrong.Code == api.OK {
		return nil
	}
	wrong.Path = slices.Insert(slices.Clone(wrong.Path), 0, n)
	return []fault{{[]int{5, n}, wrong}}
}

// modelJudge gathers all that is wrong with a container, and tells what comes first.
func modelJudge(c api.Container, kind int) api.Reject {
	if kind != api.Runtime && kind != api.Init {
		return no(api.ErrArg, 0, 0)
	}
	if wrong := container.Check(c); wrong != api.OK {
		return no(wrong, 0, 0)
	}
	faults := slices.Concat(modelWithin(c), modelApart(c))
	for s := range c.Codes {
		faults = append(faults, modelSection(c, kind, s)...)
	}
	return first(faults)
}

// unlike is where Judge, or Validate of the container's bytes, says otherwise than this; none: nowhere.
func unlike(c api.Container, kind int, want api.Reject) string {
	if got := valid.Judge(c, kind); !alike(got, want) {
		return fmt.Sprintf("Judge(%x as %d): %+v, want %+v", c, kind, got, want)
	}
	b, wrong := container.Serialize(c)
	if wrong != api.OK {
		return ""
	}
	if len(c.Data) < c.Size && (kind == api.Runtime || kind == api.Init) {
		want = no(api.ErrCut, 0, len(b))
	}
	x, got := valid.Validate(b, kind)
	if !alike(got, want) || (x == nil) != (want.Code != api.OK) {
		return fmt.Sprintf("Validate(%x, %d): %v, %+v, want %+v", b, kind, x != nil, got, want)
	}
	if x != nil && (string(x.Bytes()) != string(b) || x.Kind() != kind) {
		return fmt.Sprintf("Validate(%x, %d): the code of % x as %d", b, kind, x.Bytes(), x.Kind())
	}
	return ""
}

// judged: Judge says this, and the model too.
func judged(t *testing.T, what string, c api.Container, kind int, want api.Reject) {
	t.Helper()
	if model := modelJudge(c, kind); !alike(model, want) {
		t.Errorf("%s: the model says %+v, want %+v", what, model, want)
	}
	if wrong := unlike(c, kind, want); wrong != "" {
		t.Errorf("%s: %s", what, wrong)
	}
}

// held: Judge says what the model says.
func held(t *testing.T, c api.Container, kind int) api.Reject {
	t.Helper()
	want := modelJudge(c, kind)
	if wrong := unlike(c, kind, want); wrong != "" {
		t.Fatal(wrong)
	}
	return want
}
