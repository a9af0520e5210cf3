package script

import (
	"strconv"
	"strings"

	"vouch/api"
	"vouch/asm"
	"vouch/audit"
	"vouch/container"
	"vouch/valid"
)

// judgeCode tells whether a container is valid, or why it is not.
func (s *shell) judgeCode(words []string) api.Errno {
	var as int
	var b []byte
	if !read(words, kind{&as}, row{&b}) {
		return api.ErrLine
	}
	_, no := valid.Validate(b, as)
	s.tell(rejectWords(no)...)
	return api.OK
}

// rejectWords is what is told of a container.
func rejectWords(no api.Reject) []string {
	if no.Code == api.OK {
		return []string{"valid"}
	}
	words := []string{"refused", strconv.Itoa(int(no.Code)), "section", strconv.Itoa(no.Section), "at", strconv.Itoa(no.At), "path"}
	for _, i := range no.Path {
		words = append(words, strconv.Itoa(i))
	}
	return words
}

// printCode tells a container's text; its data may be shorter than is declared.
func (s *shell) printCode(words []string) api.Errno {
	var b []byte
	if !read(words, row{&b}) {
		return api.ErrLine
	}
	c, no := container.Parse(b, true)
	if no.Code != api.OK {
		return no.Code
	}
	text, e := asm.Print(c)
	if e != api.OK {
		return e
	}
	for line := range strings.Lines(text) {
		s.tell("|", strings.TrimSuffix(line, "\n"))
	}
	return api.OK
}

// auditAll tells of all code whether it is valid.
func (s *shell) auditAll(words []string) api.Errno {
	var workers uint64
	if !read(words, number{&workers}) {
		return api.ErrLine
	}
	verdicts, e := audit.Audit(s.accounts, int(min(workers, api.MaxWorkers+1))) // none wraps to a number that may be
	if e != api.OK {
		return e
	}
	for _, x := range verdicts {
		s.tell(append([]string{addressText(x.Address)}, rejectWords(x.Reject)...)...)
	}
	return api.OK
}
