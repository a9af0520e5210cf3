package script_test

import (
	"bytes"
	"encoding/hex"
	"errors"
	"fmt"
	"maps"
	"math/big"
	"regexp"
	"slices"
	"strings"

	"vouch/api"
	"vouch/asm"
	"vouch/container"
	"vouch/exec"
	"vouch/valid"
	"vouch/word"
)

// held is an account of the model.
type held struct {
	nonce   uint64
	balance api.Word
	code    []byte
	slots   map[api.Word]api.Word
}

// model is a shell told once more: words by regular expressions, numbers by math/big, accounts in maps; what the layers below say is asked of them, of exec step by step.
type model struct {
	accounts map[api.Address]held
	block    api.Block
	engine   int
	told     []string
	met      map[string]int // lines by their first words and how they went
}

var (
	wordsOf  = regexp.MustCompile(`[^ ]+`)
	numbered = regexp.MustCompile(`^(0x[0-9a-fA-F]{1,64}|[0-9]{1,78})$`)
	rowed    = regexp.MustCompile(`^0x(?:[0-9a-f][0-9a-f])*$`)
)

// row by row: what is to stand behind a line's first word (see table).
var kindsOf = map[string]string{
	"account": "ANW", "code": "AH", "slot": "AWW", "drop": "A", "block": "NNAWNWWW", "hash": "B", "engine": "E", "world": "",
	"call": "AAWNH", "still": "AANH", "make": "AWNWHH", "trace": "NAAWNH", "judge": "KH", "print": "H", "audit": "N",
}

// refusal is a line's error, thrown.
type refusal int

// runModel is what the model tells of a text.
func runModel(text string) (string, map[string]int) {
	if len(text) > 1048576 {
		return "too long\n", nil
	}
	all := strings.Split(text, "\n")
	if all[len(all)-1] == "" {
		all = all[:len(all)-1]
	}
	if len(all) > 10000 {
		return "too many lines\n", nil
	}
	m := &model{accounts: map[api.Address]held{}, engine: 1, met: map[string]int{}}
	for i, line := range all {
		m.line(i+1, wordsOf.FindAllString(line, -1))
	}
	var out strings.Builder
	for _, line := range m.told {
		out.WriteString(line + "\n")
	}
	return out.String(), m.met
}

func (m *model) say(form string, l ...any) { m.told = append(m.told, fmt.Sprintf(form, l...)) }

// line does a line.
func (m *model) line(number int, words []string) {
	if len(words) == 0 || words[0][0] == '#' {
		return
	}
	defer func() {
		no, _ := recover().(refusal)
		if no != 0 {
			m.say("line %d: error %d", number, int(no))
		}
		if _, ok := kindsOf[words[0]]; ok {
			m.met[fmt.Sprint(words[0], " ", int(no))]++
		}
	}()
	kinds, ok := kindsOf[words[0]]
	if !ok || len(words) != len(kinds)+1 {
		panic(refusal(190))
	}
	var said []any
	for i, kind := range kinds {
		said = append(said, understood(kind, words[i+1]))
	}
	m.do(words[0], said)
}

// understood is what a word says: a big number, bytes or a number of api's.
func understood(kind rune, text string) any {
	bits := map[rune]int{'N': 64, 'W': 256, 'A': 160}[kind]
	switch {
	case bits > 0 && numbered.MatchString(text):
		x, _ := new(big.Int).SetString(strings.TrimPrefix(text, "0x"), map[bool]int{true: 16, false: 10}[strings.HasPrefix(text, "0x")])
		if x.BitLen() <= bits {
			return x
		}
	case (kind == 'H' || kind == 'B' && len(text) == 66) && rowed.MatchString(text):
		b, _ := hex.DecodeString(text[2:])
		return b
	case kind == 'E' && (text == "checked" || text == "fast"):
		return map[string]int{"checked": api.Checked, "fast": api.Fast}[text]
	case kind == 'K' && (text == "runtime" || text == "init"):
		return map[string]int{"runtime": api.Runtime, "init": api.Init}[text]
	}
	panic(refusal(190))
}

func asWord(x any) api.Word {
	var b [32]byte
	x.(*big.Int).FillBytes(b[:])
	w, _ := word.FromBytes(b[:])
	return w
}

func asAddress(x any) (a api.Address) {
	x.(*big.Int).FillBytes(a[:])
	return a
}

func asNumber(x any) uint64 { return x.(*big.Int).Uint64() }

// there is an account that is there.
func (m *model) there(x any) (api.Address, held) {
	h, ok := m.accounts[asAddress(x)]
	if !ok {
		panic(refusal(161))
	}
	return asAddress(x), h
}

// do does a line whose words are right.
func (m *model) do(first string, x []any) {
	switch first {
	case "account":
		h, ok := m.accounts[asAddress(x[0])]
		if h.nonce, h.balance = asNumber(x[1]), asWord(x[2]); !ok {
			h.slots = map[api.Word]api.Word{}
		}
		m.accounts[asAddress(x[0])] = h
	case "code":
		a, h := m.there(x[0])
		h.code = x[1].([]byte)
		m.accounts[a] = h
	case "slot":
		_, h := m.there(x[0])
		if h.slots[asWord(x[1])] = asWord(x[2]); asWord(x[2]) == (api.Word{}) {
			delete(h.slots, asWord(x[1]))
		}
	case "drop":
		a, _ := m.there(x[0])
		delete(m.accounts, a)
	case "block":
		m.block = api.Block{Number: asNumber(x[0]), Time: asNumber(x[1]), Coinbase: asAddress(x[2]), Random: asWord(x[3]), Limit: asNumber(x[4]), Chain: asWord(x[5]), Base: asWord(x[6]), BlobBase: asWord(x[7]), Hashes: m.block.Hashes}
	case "hash":
		m.block.Hashes = append(slices.Clone(m.block.Hashes), api.Hash(x[0].([]byte)))
	case "engine":
		m.engine = x[0].(int)
	case "world":
		m.world()
	case "call":
		m.run(api.Message{From: asAddress(x[0]), To: asAddress(x[1]), Value: asWord(x[2]), Gas: asNumber(x[3]), Input: x[4].([]byte)})
	case "still":
		m.run(api.Message{From: asAddress(x[0]), To: asAddress(x[1]), Gas: asNumber(x[2]), Input: x[3].([]byte), Still: true})
	case "make":
		m.run(api.Message{From: asAddress(x[0]), Value: asWord(x[1]), Gas: asNumber(x[2]), Salt: asWord(x[3]), Init: x[4].([]byte), Input: x[5].([]byte), Make: true})
	case "trace":
		m.trace(asNumber(x[0]), api.Message{From: asAddress(x[1]), To: asAddress(x[2]), Value: asWord(x[3]), Gas: asNumber(x[4]), Input: x[5].([]byte)})
	case "judge":
		_, no := valid.Validate(x[1].([]byte), x[0].(int))
		m.say("%s", saying(no))
	case "print":
		m.print(x[0].([]byte))
	case "audit":
		m.audit(asNumber(x[0]))
	}
}

// list is the model's accounts, rising.
func (m *model) list() []api.Account {
	var l []api.Account
	for a, h := range m.accounts {
		x := api.Account{Address: a, Nonce: h.nonce, Balance: h.balance, Code: h.code}
		for key, value := range h.slots {
			x.Slots = append(x.Slots, api.Slot{Key: key, Value: value})
		}
		slices.SortFunc(x.Slots, func(x, y api.Slot) int { return plain(x.Key).Cmp(plain(y.Key)) })
		l = append(l, x)
	}
	return list(l...)
}

// plain is a word as a number.
func plain(x api.Word) *big.Int {
	b := word.Bytes(x)
	return new(big.Int).SetBytes(b[:])
}

func (m *model) world() {
	for _, x := range m.list() {
		m.say("account 0x%x %d %d", x.Address, x.Nonce, plain(x.Balance))
		if len(x.Code) > 0 {
			m.say("code 0x%x 0x%x", x.Address, x.Code)
		}
		for _, slot := range x.Slots {
			m.say("slot 0x%x 0x%x 0x%x", x.Address, plain(slot.Key), plain(slot.Value))
		}
	}
}

// begun is a message that has begun.
func (m *model) begun(x api.Message, engine int) *exec.Start {
	s, err := exec.Begin(m.list(), m.block, x, engine)
	var no *exec.Refusal
	if errors.As(err, &no) {
		panic(refusal(no.Code))
	}
	return s
}

func (m *model) run(x api.Message) {
	s := m.begun(x, m.engine)
	for s.Go(1000) > 0 {
	}
	r, behind, _ := s.Ended()
	m.accounts = map[api.Address]held{}
	for _, y := range behind {
		h := held{y.Nonce, y.Balance, bytes.Clone(y.Code), map[api.Word]api.Word{}}
		for _, slot := range y.Slots {
			h.slots[slot.Key] = slot.Value
		}
		m.accounts[y.Address] = h
	}
	how := []string{"", "done", "reverted", fmt.Sprint("halted ", r.Why), fmt.Sprint("faulted ", r.Why)}[r.Status]
	m.say("%s left %d back %d steps %d", how, r.Left, r.Back, r.Steps)
	m.met[how]++
	if len(r.Output) > 0 {
		m.say("output 0x%x", r.Output)
		m.met["output"]++
	}
	if x.Make && how == "done" {
		m.say("made 0x%x", r.Made)
		m.met["made"]++
	}
	for _, log := range r.Logs {
		line := fmt.Sprintf("log 0x%x 0x%x", log.Address, log.Data)
		for _, topic := range log.Topics {
			line += fmt.Sprintf(" 0x%x", plain(topic))
		}
		m.say("%s", line)
		m.met[fmt.Sprint("log ", len(log.Topics))]++
	}
}

func (m *model) trace(most uint64, x api.Message) {
	if most > 10000 {
		panic(refusal(2))
	}
	s := m.begun(x, api.Checked)
	for range most {
		seen, more := s.Next()
		if !more {
			break
		}
		m.say("%d 0x%x %d %d %d %d %d", seen.Depth, seen.Self, seen.Section, seen.At, seen.Code, seen.Height, seen.Left)
		m.met[fmt.Sprint("depth ", seen.Depth)]++
		s.Go(1)
	}
}

// saying is what is told of a container.
func saying(no api.Reject) string {
	if no.Code == 0 {
		return "valid"
	}
	return strings.TrimRight(fmt.Sprintf("refused %d section %d at %d path %s", no.Code, no.Section, no.At, strings.Trim(fmt.Sprint(no.Path), "[]")), " ")
}

func (m *model) print(b []byte) {
	c, no := container.Parse(b, true)
	if no.Code != 0 {
		panic(refusal(no.Code))
	}
	text, wrong := asm.Print(c)
	if wrong != 0 {
		panic(refusal(wrong))
	}
	for _, line := range strings.Split(strings.TrimSuffix(text, "\n"), "\n") {
		m.say("| %s", line)
	}
}

func (m *model) audit(workers uint64) {
	if workers < 1 || workers > 16 {
		panic(refusal(180))
	}
	for _, a := range slices.SortedFunc(maps.Keys(m.accounts), func(x, y api.Address) int { return bytes.Compare(x[:], y[:]) }) {
		if code := m.accounts[a].code; len(code) > 0 {
			_, no := valid.Validate(code, api.Runtime)
			m.say("0x%x %s", a, saying(no))
		}
	}
}
