package script

import (
	"errors"
	"strconv"

	"vouch/api"
	"vouch/exec"
	"vouch/trace"
	"vouch/word"
)

// callTo runs a message to an account.
func (s *shell) callTo(words []string) api.Errno {
	var m api.Message
	if !read(words, callWords(&m)...) {
		return api.ErrLine
	}
	return s.run(m)
}

// callWords is what is wanted of a message that may move a value.
func callWords(m *api.Message) []any {
	return []any{address{&m.From}, address{&m.To}, value{&m.Value}, number{&m.Gas}, row{&m.Input}}
}

// callStill runs a message that may change nothing.
func (s *shell) callStill(words []string) api.Errno {
	m := api.Message{Still: true}
	if !read(words, address{&m.From}, address{&m.To}, number{&m.Gas}, row{&m.Input}) {
		return api.ErrLine
	}
	return s.run(m)
}

// makeOne runs a message that makes an account.
func (s *shell) makeOne(words []string) api.Errno {
	m := api.Message{Make: true}
	if !read(words, address{&m.From}, value{&m.Value}, number{&m.Gas}, value{&m.Salt}, row{&m.Init}, row{&m.Input}) {
		return api.ErrLine
	}
	return s.run(m)
}

// run runs a message over the accounts; those behind it take their place.
func (s *shell) run(m api.Message) api.Errno {
	went, behind, err := exec.Execute(s.accounts, s.block, m, s.engine)
	if err != nil {
		return codeOf(err)
	}
	s.accounts = behind
	s.tellResult(m, went)
	return api.OK
}

// codeOf is the number of what exec refuses.
func codeOf(err error) api.Errno {
	var no *exec.Refusal
	errors.As(err, &no)
	return no.Code
}

// tellResult tells how a message went.
func (s *shell) tellResult(m api.Message, r api.Result) {
	s.tell(statusText(r), "left", numberText(r.Left), "back", numberText(r.Back), "steps", numberText(r.Steps))
	if len(r.Output) > 0 {
		s.tell("output", rowText(r.Output))
	}
	if m.Make && r.Status == api.Done {
		s.tell("made", addressText(r.Made))
	}
	for _, log := range r.Logs {
		words := []string{"log", addressText(log.Address), rowText(log.Data)}
		for _, topic := range log.Topics {
			words = append(words, word.Hex(topic))
		}
		s.tell(words...)
	}
}

func statusText(r api.Result) string {
	switch r.Status {
	case api.Done:
		return "done"
	case api.Reverted:
		return "reverted"
	case api.Halted:
		return "halted " + strconv.Itoa(r.Why)
	}
	return "faulted " + strconv.Itoa(r.Why)
}

// traceSteps tells the first so many steps of a message, and leaves the accounts as they are.
func (s *shell) traceSteps(words []string) api.Errno {
	var most uint64
	var m api.Message
	if !read(words, append([]any{number{&most}}, callWords(&m)...)...) {
		return api.ErrLine
	}
	if most > api.MaxLines {
		return api.ErrLong
	}
	steps, err := trace.Follow(s.accounts, s.block, m)
	if err != nil {
		return codeOf(err)
	}
	if most == 0 {
		return api.OK
	}
	for seen := range steps {
		s.tellStep(seen)
		if most--; most == 0 {
			break
		}
	}
	return api.OK
}

func (s *shell) tellStep(x api.Seen) {
	s.tell(strconv.Itoa(x.Depth), addressText(x.Self), strconv.Itoa(x.Section), strconv.Itoa(x.At), strconv.Itoa(x.Code), strconv.Itoa(x.Height), numberText(x.Left))
}
