package asm_test

import (
	"bytes"
	"encoding/hex"
	"slices"
	"strings"
	"testing"

	"vouch/api"
	"vouch/asm"
	"vouch/container"
)

// head begins the text of a container whose first section is as the first one must be; tail ends it.
const (
	head = "section 0 never 0\n"
	tail = "data 0\n"
)

// most is how long a text may be.
const most = 1 << 20

// raw is bytes written in hexadecimal, with spaces or without.
func raw(text string) []byte {
	b, wrong := hex.DecodeString(strings.ReplaceAll(text, " ", ""))
	if wrong != nil {
		panic(wrong)
	}
	return b
}

// word is bytes as a word of a text.
func word(b []byte) string { return "0x" + hex.EncodeToString(b) }

// row is so many bytes.
func row(size int) []byte {
	b := make([]byte, size)
	for i := range b {
		b[i] = byte(7*i + i>>8)
	}
	return b
}

// of is a container whose sections these are: the first one's type is 0, never, 0, the others' 0, 0, 0.
func of(codes ...[]byte) api.Container {
	c := api.Container{Codes: codes, Types: make([]api.Type, len(codes))}
	c.Types[0].Out = api.NoReturn
	return c
}

// with is the container with these nested in it.
func with(c api.Container, subs ...[]byte) api.Container {
	c.Subs = append(slices.Clone(c.Subs), subs...)
	return c
}

// declared is the container with these data, declared to be so long.
func declared(c api.Container, size int, data []byte) api.Container {
	c.Size, c.Data = size, data
	return c
}

// bytesOf is a container's bytes.
func bytesOf(c api.Container) []byte {
	b, wrong := container.Serialize(c)
	if wrong != api.OK {
		panic(wrong)
	}
	return b
}

func samePieces(a, b [][]byte) bool { return slices.EqualFunc(a, b, bytes.Equal) }

// same: are they the same container? None and an empty list are the same.
func same(a, b api.Container) bool {
	return slices.Equal(a.Types, b.Types) && samePieces(a.Codes, b.Codes) && samePieces(a.Subs, b.Subs) && bytes.Equal(a.Data, b.Data) && a.Size == b.Size
}

// zero: is it the zero container?
func zero(c api.Container) bool {
	return c.Types == nil && c.Codes == nil && c.Subs == nil && c.Data == nil && c.Size == 0
}

// short is a text, or what can be told of a long one.
func short(text string) string {
	if len(text) > 400 {
		return text[:200] + " .. " + text[len(text)-200:]
	}
	return text
}

// wantRead: Parse reads just this container.
func wantRead(t testing.TB, text string, want api.Container) {
	t.Helper()
	c, wrong, at := asm.Parse(text)
	if wrong != api.OK || at != 0 || !same(c, want) {
		t.Fatalf("Parse(%q): %v at %d, %s; want %s", short(text), wrong, at, told(c), told(want))
	}
}

// told is a container in words.
func told(c api.Container) string {
	var b strings.Builder
	for i, t := range c.Types {
		b.WriteString(short(modelSection(t, c.Codes[i])))
	}
	for _, sub := range c.Subs {
		b.WriteString("nested " + short(hex.EncodeToString(sub)) + "\n")
	}
	b.WriteString("data " + short(hex.EncodeToString(c.Data)))
	return b.String()
}

// wantRefused: Parse tells just this, there.
func wantRefused(t testing.TB, text string, want api.Errno, place int) {
	t.Helper()
	c, wrong, at := asm.Parse(text)
	if wrong != want || at != place || !zero(c) {
		t.Fatalf("Parse(%q): %v at %d, want %v at %d; a zero container: %v", short(text), int(wrong), at, int(want), place, zero(c))
	}
}

// wantPrinted: Print writes just this text, and Parse reads it as the container.
func wantPrinted(t testing.TB, c api.Container, want string) {
	t.Helper()
	text, wrong := asm.Print(c)
	if wrong != api.OK || text != want {
		t.Fatalf("Print: %v, %q; want %q", int(wrong), short(text), short(want))
	}
	wantRead(t, text, c)
}

// wantUnprinted: Print writes no text, and tells this.
func wantUnprinted(t testing.TB, c api.Container, want api.Errno) {
	t.Helper()
	if text, wrong := asm.Print(c); wrong != want || text != "" {
		t.Fatalf("Print: %v, %d bytes; want %v", int(wrong), len(text), int(want))
	}
}
