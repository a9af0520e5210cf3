package asm_test

import (
	"bytes"
	"math"
	"slices"
	"strings"
	"sync"
	"testing"

	"vouch/api"
	"vouch/asm"
)

// R1: no call panics, at any text: any bytes, any words, every beginning.
func TestNoPanicAtTexts(t *testing.T) {
	d := draw(161)
	met := counts{}
	for range 20000 {
		readAsModel(t, string(d.bytes(d.IntN(30))), met)
		var text strings.Builder
		if d.one(2) {
			text.WriteString(head)
		}
		for range d.IntN(12) {
			text.WriteString(pick(d, strange...) + pick(d, " ", "\n", "\n", "#", "\t", ""))
		}
		readAsModel(t, text.String(), met)
	}
	met.enough(t, 20, "160", "161", "1")
}

// R1: no call panics, at any container.
func TestNoPanicAtContainers(t *testing.T) {
	d := draw(162)
	edges := []int{math.MinInt, -1, 0, 1, 127, 128, 129, 1023, 1024, 65535, 65536, math.MaxInt}
	for range 20000 {
		c := d.container(1)
		for range d.IntN(3) {
			switch i := d.IntN(len(c.Types)); d.IntN(7) {
			case 0:
				c.Types[i] = api.Type{In: pick(d, edges...), Out: pick(d, edges...), Most: pick(d, edges...)}
			case 1:
				c.Size = pick(d, edges...)
			case 2:
				c.Types = append(c.Types, api.Type{})
			case 3:
				c.Codes = append(c.Codes, nil)
			case 4:
				c.Codes[0] = nil
			case 5:
				c.Subs = append(c.Subs, nil)
			default:
				c.Codes = c.Codes[:d.IntN(2)]
			}
			if len(c.Codes) == 0 {
				break
			}
		}
		text, wrong := modelPrint(c)
		if wrong != api.OK {
			wantUnprinted(t, c, wrong)
		} else {
			wantPrinted(t, c, text)
		}
	}
	wantUnprinted(t, api.Container{}, api.ErrCodes)
}

// R1: many parts, nested in one another or side by side, as far as a text has room for them.
func TestDeepAndWide(t *testing.T) {
	wantRefused(t, strings.Repeat("section 0 0 0\nsub\n", most/18), api.ErrSyntax, most/18*18)
	wantRefused(t, strings.Repeat("section 0 0 0\n", most/14), api.ErrSyntax, most/14*14)
	text := head + "STOP\n" + strings.Repeat("sub 0x\n", most/7-20)
	wantRefused(t, text+tail, api.ErrSubs, len(text))
	text = head + strings.Repeat("OR\n", 349000)
	wantRefused(t, text+tail, api.ErrLong, len(text))
	wantRefused(t, text, api.ErrSyntax, len(text))
	text = head + "a:\n" + strings.Repeat("RJUMP a\n", 10922)
	wantRead(t, text+strings.Repeat("STOP\n", 9)+tail, of(backwards(10922, 9)))
	wantRefused(t, text+"PUSH0\nRJUMP a\n"+tail, api.ErrArg, len(text)+12)
	const deep = 6000
	c := of(raw("00"))
	for range deep {
		c = with(of(raw("00")), bytesOf(c))
	}
	text = strings.Repeat(head+"STOP\nsub\n", deep) + head + "STOP\n" + tail + strings.Repeat("end\n"+tail, deep)
	wantPrinted(t, c, text)
	cut := strings.LastIndex(text, "end\n")
	wantRefused(t, text[:cut], api.ErrSyntax, cut)
	wantRefused(t, text[:cut]+"data 0\n", api.ErrSyntax, cut)
}

// backwards is so many RJUMPs to place 0, and so many STOPs behind.
func backwards(many, stops int) []byte {
	var b []byte
	for i := range many {
		b = append(b, 0xe0)
		b = append(b, pair(-3*(i+1))...)
	}
	return append(b, make([]byte, stops)...)
}

// roomy is the bytes with spare room that can be told.
func roomy(b []byte) []byte {
	room := append(slices.Clone(b), bytes.Repeat([]byte{0x77}, 40)...)
	return room[:len(b):len(room)]
}

// roomyOf is the container with spare room in all its lists.
func roomyOf(c api.Container) api.Container {
	own := api.Container{Size: c.Size, Data: roomy(c.Data)}
	own.Types = append(slices.Clone(c.Types), api.Type{In: 5}, api.Type{Out: 6})[:len(c.Types)]
	for _, b := range c.Codes {
		own.Codes = append(own.Codes, roomy(b))
	}
	own.Codes = append(own.Codes, roomy(raw("0102")))[:len(c.Codes)]
	for _, b := range c.Subs {
		own.Subs = append(own.Subs, roomy(b))
	}
	own.Subs = append(own.Subs, roomy(raw("0304")))[:len(c.Subs)]
	return own
}

// roomOf is all that a container's lists are, their spare room too, as one text.
func roomOf(c api.Container) string {
	var b strings.Builder
	for _, t := range c.Types[:cap(c.Types)] {
		b.WriteString(told(api.Container{Types: []api.Type{t}, Codes: [][]byte{nil}}))
	}
	for _, list := range slices.Concat(c.Codes[:cap(c.Codes)], c.Subs[:cap(c.Subs)], [][]byte{c.Data}) {
		b.Write(list[:cap(list)])
		b.WriteByte('|')
	}
	return b.String()
}

// R3: what is handed to Print is not changed, its spare room neither.
func TestHandedInStays(t *testing.T) {
	d := draw(31)
	for range 500 {
		c := roomyOf(d.container(2))
		was := roomOf(c)
		text, _ := asm.Print(c)
		if roomOf(c) != was {
			t.Fatal("Print has changed its container")
		}
		for _, list := range slices.Concat(c.Codes, c.Subs, [][]byte{c.Data}) {
			spoil(list)
		}
		if other, wrong, _ := asm.Parse(text); wrong != api.OK || roomOf(roomyOf(other)) != was {
			t.Fatal("the text hangs on a container that is turned behind it")
		}
	}
}

// spoil writes over a list of bytes, and its spare room.
func spoil(b []byte) {
	b = b[:cap(b)]
	for i := range b {
		b[i] ^= 0x5a
	}
}

// R3: what Parse answers is new memory: no two lists of one answer, or of two, share any.
func TestAnswersAreNew(t *testing.T) {
	d := draw(32)
	texts := []string{all, overText, overLabels, head + "STOP\nsub 0x0102\nsub 0x03\ndata 5 0x0102\n"}
	for range 200 {
		texts = append(texts, plain(d.text(2)))
	}
	for _, text := range texts {
		first, wrong, _ := asm.Parse(text)
		if wrong != api.OK {
			continue
		}
		second, _, _ := asm.Parse(text)
		var lists, were [][]byte
		for _, c := range []api.Container{first, second} {
			lists = append(lists, slices.Concat(c.Codes, c.Subs, [][]byte{c.Data})...)
		}
		for _, list := range lists {
			were = append(were, slices.Clone(list[:cap(list)]))
		}
		for i, list := range lists {
			spoil(list)
			for j, other := range lists {
				if i != j && !bytes.Equal(other[:cap(other)], were[j]) {
					t.Fatalf("%q: lists %d and %d share memory", text, i, j)
				}
			}
			copy(list[:cap(list)], were[i])
		}
		for i := range first.Types[:cap(first.Types)] {
			first.Types[:cap(first.Types)][i].In = 99
		}
		clear(first.Codes[:cap(first.Codes)])
		clear(first.Subs[:cap(first.Subs)])
		wantRead(t, text, second)
	}
}

// R4: the same call answers the same again, whatever was called between, and beside others.
func TestSameAgain(t *testing.T) {
	d := draw(4)
	var texts []string
	for range 60 {
		lines := d.text(2)
		if d.one(2) {
			lines = d.spoiled(lines)
		}
		texts = append(texts, d.dressed(lines))
	}
	type answer struct {
		c     api.Container
		wrong api.Errno
		at    int
		text  string
		no    api.Errno
	}
	ask := func(text string) (a answer) {
		a.c, a.wrong, a.at = asm.Parse(text)
		a.text, a.no = asm.Print(a.c)
		return a
	}
	var first []answer
	for _, text := range texts {
		first = append(first, ask(text))
	}
	var group sync.WaitGroup
	for worker := range 8 {
		group.Go(func() {
			for turn := range 5 {
				for i := range texts {
					i = (i*7 + worker + turn) % len(texts)
					a := ask(texts[i])
					if !same(a.c, first[i].c) || a.wrong != first[i].wrong || a.at != first[i].at || a.text != first[i].text || a.no != first[i].no {
						t.Errorf("another answer to %q", texts[i])
					}
				}
			}
		})
	}
	group.Wait()
}
