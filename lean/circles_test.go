package lean_test

import "testing"

// 20.3, 'Why there is always one': RJUMPs in a circle, to which jumps lead, and which nothing runs into: one is left, and leads to itself.
func TestCircles(t *testing.T) {
	becomes(t, "36 e1 0003 e0 0000 e0 fffa", "36 e1 0000 e0 fffd")
	becomes(t, "36 e1 0000 e0 0000 e0 fffa", "36 e1 0000 e0 fffd")
	becomes(t, "36 e1 0001 fe e0 0000 e0 fffa", "36 e1 0001 fe e0 fffd")
	becomes(t, "36 e1 0009 36 e1 0008 36 e1 0007 fe e0 0003 e0 fffa e0 fffa", "36 e1 0009 36 e1 0005 36 e1 0001 fe e0 fffd")
	becomes(t, "36 e2 02 0001 0004 0007 fe e0 0003 e0 fffa e0 fffa", "36 e2 02 0001 0001 0001 fe e0 fffd")
}

// 20.3: those that something runs into stay, and lead to the one that leads to itself.
func TestCirclesRunInto(t *testing.T) {
	becomes(t, "36 e1 0003 e0 0004 36 e1 0003 e0 fff6 fe", "36 e1 0003 e0 fffd 36 e1 0003 e0 fff6 fe")
	becomes(t, "36 e1 0003 e0 0004 36 e1 fff9 e0 fff6", "36 e1 0003 e0 fffd 36 e1 fff9 e0 fff6")
}

// 20.3: a circle within which something else is idle: it closes when that is gone.
func TestCirclesThatClose(t *testing.T) {
	becomes(t, "5b e0 fffc", "e0 fffd")
	becomes(t, "5b 5b 5b e0 fffb", "e0 fffd")
	becomes(t, "5f 50 e0 fffb", "e0 fffd")
	becomes(t, "5f 5b 50 e0 0000 e0 fff7", "e0 fffd")
	becomes(t, "36 e1 0003 e0 0001 fe 5b e0 fff8", "36 e1 0003 e0 fffd fe")
	becomes(t, "36 e1 0003 e0 0001 fe 5f 50 e0 fff7", "36 e1 0003 e0 fffd fe")
	becomes(t, "36 e1 0004 5b e0 0001 fe 5b e0 fff7", "36 e1 0003 e0 fffd fe")
}

// 20.3: a circle with an RJUMP to itself beside it, and ways into both.
func TestCircleBesideOne(t *testing.T) {
	becomes(t, "36 e2 02 0003 0006 0000 e0 fffd e0 0000 e0 fffa", "36 e2 02 0003 0003 0000 e0 fffd e0 fffd")
	remains(t, "5f e1 0003 e0 fff9 e0 fffd")
	remains(t, "36 e1 0003 e0 0001 fe e0 fffd")
	becomes(t, "36 e1 0004 36 e1 0003 e0 0001 fe e0 fffd", "36 e1 0008 36 e1 0003 e0 0001 fe e0 fffd")
}
