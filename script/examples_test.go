package script_test

import "testing"

// example is a script, and what it tells.
type example struct{ text, tells string }

// chapter is the chapter's 'Examples'.
func chapter() []example {
	return []example{
		{"account 0xa 0 7\nworld", "account 0x000000000000000000000000000000000000000a 0 7\n"},
		{"code 0xa 0x00", "line 1: error 161\n"},
		{"account 0xa 0\nfrob", "line 1: error 190\nline 2: error 190\n"},
		{"account 0xa 0 7\ncall 0xa 0xb 3 5 0x\nworld", "done left 5 back 0 steps 0\naccount 0x000000000000000000000000000000000000000a 0 4\naccount 0x000000000000000000000000000000000000000b 0 3\n"},
		{"account 0xa 0 7\ncall 0xa 0xb 8 5 0x", "line 2: error 151\n"},
		{"judge runtime 0xef000101000402000100010000", "refused 53 section 0 at 11 path\n"},
	}
}

// ten are the document's 'Ten examples of the whole'.
func ten() []example {
	return []example{{
		`account 0xa 0 7
call 0xa 0xb 3 5 0x
world
`, `done left 5 back 0 steps 0
account 0x000000000000000000000000000000000000000a 0 4
account 0x000000000000000000000000000000000000000b 0 3
`}, {
		`account 0xb 1 0
code 0xb 0xef0001010004020001000bff0000000080000260056007015f5260205ff3
call 0xa 0xb 0 1000 0x
`, `done left 978 back 0 steps 8
output 0x000000000000000000000000000000000000000000000000000000000000000c
`}, {
		`account 0xb 1 0
code 0xb 0xef00010100040200010003ff000000008000015f5000
engine fast
call 0xa 0xb 0 3 0x
trace 9 0xa 0xb 0 9 0x
`, `halted 1 left 0 back 0 steps 2
0 0x000000000000000000000000000000000000000b 0 0 95 0 9
0 0x000000000000000000000000000000000000000b 0 1 80 1 7
0 0x000000000000000000000000000000000000000b 0 2 0 0 5
`}, {
		`judge runtime 0xef00010100040200010002ff000000008000005000
judge runtime 0xef00010100040200010002ff000000008000000000
judge runtime 0xef00010100040200010004ff00000000800000e0000100
judge init 0xef00010100040200010001ff0000000080000000
judge runtime 0xef000101000802000200010001ff000000008000000000000000e4
`, `refused 70 section 0 at 0 path
refused 73 section 0 at 1 path
refused 63 section 0 at 0 path
refused 80 section 0 at 0 path
refused 87 section 1 at 0 path
`}, {
		`account 0xb 1 0
code 0xb 0xef0001010008020002000b0004ff00000000800002010100026005e300015f5260205ff3600202e4
engine fast
call 0xa 0xb 0 1000 0x
`, `done left 968 back 0 steps 10
output 0x000000000000000000000000000000000000000000000000000000000000000a
`}, {
		`account 0xb 1 0
code 0xb 0xef00010100040200010005ff000000008000025f60015500
slot 0xb 1 5
call 0xa 0xb 0 10000 0x
world
`, `done left 5996 back 1001 steps 4
account 0x000000000000000000000000000000000000000b 1 0
code 0x000000000000000000000000000000000000000b 0xef00010100040200010005ff000000008000025f60015500
`}, {
		`account 0xb 0 0
code 0xb 0xef00010100040200010008ff00000000800002602a5f5360015ffd
account 0xc 0 9
code 0xc 0xef0001010004020001000dff0000000080000460025f5f600bf85f5260205ff3
engine fast
call 0xa 0xc 0 30000 0x
world
`, `done left 18361 back 0 steps 16
output 0x0000000000000000000000000000000000000000000000000000000000000001
account 0x000000000000000000000000000000000000000b 0 0
code 0x000000000000000000000000000000000000000b 0xef00010100040200010008ff00000000800002602a5f5360015ffd
account 0x000000000000000000000000000000000000000c 0 9
code 0x000000000000000000000000000000000000000c 0xef0001010004020001000dff0000000080000460025f5f600bf85f5260205ff3
`}, {
		`account 0xa 0 9
make 0xa 4 50000 0 0xef0001010004020001000503000100000014ff0000000080000260025fee00ef00010100040200010001ff0000000080000000 0x
world
audit 2
`, `done left 45592 back 0 steps 3
made 0x970bee9b608bbaae15058b5b6ce9522be23802be
account 0x000000000000000000000000000000000000000a 1 5
account 0x970bee9b608bbaae15058b5b6ce9522be23802be 1 4
code 0x970bee9b608bbaae15058b5b6ce9522be23802be 0xef00010100040200010001ff00020000800000000000
0x970bee9b608bbaae15058b5b6ce9522be23802be valid
`}, {
		`account 0xb 0 1
code 0xb 0xef00010100040200010007ff00000000800003600760015fa100
call 0xa 0xb 0 2000 0x
still 0xa 0xb 2000 0x
`, `done left 1231 back 0 steps 5
log 0x000000000000000000000000000000000000000b 0x00 0x7
halted 4 left 0 back 0 steps 4
`}, {
		`account 0xb 0 1
code 0xb 0xef0001010004020001000cff0000000080000260036001900380e1fff85000
engine fast
call 0xa 0xb 0 100 0x
print 0xef0001010004020001000cff0000000080000260036001900380e1fff85000
`, `done left 47 back 0 steps 18
| section 0 never 2
| PUSH1 0x03
| PUSH1 0x01
| SWAP1
| SUB
| DUP1
| RJUMPI @2
| POP
| STOP
| data 0
`}}
}

// 19.1 to 19.8: the rows of the chapter's 'Examples'.
func TestExamples(t *testing.T) {
	for i, x := range chapter() {
		holds(t, i+1, x.text, x.tells)
		holds(t, i+1, x.text+"\n", x.tells)
	}
}

// W15, W2: the ten examples of the whole, by the engine that they say, and by each other one.
func TestTen(t *testing.T) {
	for i, x := range ten() {
		holds(t, i+1, x.text, x.tells)
		for _, engine := range []string{"engine checked\n", "engine fast\n"} {
			holds(t, i+1, engine+x.text, x.tells)
		}
	}
}
