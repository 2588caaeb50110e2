package line_test

import (
	"testing"

	"duplex/api"
	"duplex/line"
)

// behindTick3 is the line of example 8 behind tick 3: the first block of "ABC"
// is on the line.
func behindTick3(t *testing.T) *line.Line {
	t.Helper()
	x := open(t, small)
	submit(t, x, 0, text("ABC"), 1)
	step(t, x, 1, [2]string{bid, ""}, [2]int{bidding, idle}, [2]int{1, 0})
	step(t, x, 2, [2]string{"", yes0}, [2]int{bidding, receiving}, [2]int{1, 0})
	step(t, x, 3, [2]string{blockAB, ""}, [2]int{sending, receiving}, [2]int{1, 0})
	return x
}

// goesOn is what examples 10 to 12 come to: the last block is on the line, and
// the message comes over.
func goesOn(t *testing.T, x *line.Line, at int) {
	t.Helper()
	step(t, x, at, [2]string{blockC, ""}, [2]int{sending, receiving}, [2]int{1, 0})
	step(t, x, at+1, [2]string{"", yes0}, [2]int{sending, receiving}, [2]int{1, 0}, delivered(1, text("ABC")))
	step(t, x, at+2, [2]string{end, ""}, [2]int{idle, receiving}, [2]int{0, 0}, sent(0, 1))
	step(t, x, at+3, [2]string{"", ""}, [2]int{idle, idle}, [2]int{0, 0})
}

func TestExample10(t *testing.T) {
	for _, askIsLost := range []bool{false, true} {
		x := behindTick3(t)
		step(t, x, 4, [2]string{"", yes1}, [2]int{sending, receiving}, [2]int{1, 0})
		lose(t, x)
		step(t, x, 5, [2]string{"", ""}, [2]int{sending, receiving}, [2]int{1, 0})
		step(t, x, 6, [2]string{ask, ""}, [2]int{sending, receiving}, [2]int{1, 0})
		if !askIsLost {
			step(t, x, 7, [2]string{"", yes1}, [2]int{sending, receiving}, [2]int{1, 0})
			goesOn(t, x, 8)
			continue
		}
		lose(t, x)
		step(t, x, 7, [2]string{"", ""}, [2]int{sending, receiving}, [2]int{1, 0})
		step(t, x, 8, [2]string{"", ""}, [2]int{sending, receiving}, [2]int{1, 0})
		step(t, x, 9, [2]string{end, ""}, [2]int{idle, receiving}, [2]int{0, 0}, failed(0, 1))
		step(t, x, 10, [2]string{"", ""}, [2]int{idle, idle}, [2]int{0, 0})
	}
}

func TestExample11(t *testing.T) {
	x := behindTick3(t)
	makeBusy(t, x, 1, true)
	tick(t, x, 4, "", later)
	makeBusy(t, x, 1, false)
	for at := 5; at <= 7; at++ {
		step(t, x, at, [2]string{"", ""}, [2]int{sending, receiving}, [2]int{1, 0})
	}
	step(t, x, 8, [2]string{ask, ""}, [2]int{sending, receiving}, [2]int{1, 0})
	step(t, x, 9, [2]string{"", yes1}, [2]int{sending, receiving}, [2]int{1, 0})
	goesOn(t, x, 10)
}

func TestExample12(t *testing.T) {
	x := behindTick3(t)
	fault(t, x, api.Turn, 3, 1, api.OK)
	if got := x.OnLine(0); got != raw(t, "16 16 02 40 42 17 16 ff") {
		t.Errorf("P13, P15: % x is on the line", got)
	}
	step(t, x, 4, [2]string{"", no}, [2]int{sending, receiving}, [2]int{1, 0})
	step(t, x, 5, [2]string{blockAB, ""}, [2]int{sending, receiving}, [2]int{1, 0})
	step(t, x, 6, [2]string{"", yes1}, [2]int{sending, receiving}, [2]int{1, 0})
	goesOn(t, x, 7)
}

func TestExample13(t *testing.T) {
	x := open(t, small)
	fault(t, x, api.Lose, 0, 0, api.ErrLine)
	submit(t, x, 0, text("ABC"), 1)
	fault(t, x, api.Lose, 0, 0, api.ErrLine)
	tick(t, x, 1, bid, "")
	fault(t, x, api.Turn, 5, 1, api.ErrFault)
	fault(t, x, api.Cut, 5, 0, api.OK)
	if got := x.OnLine(0); got != raw(t, bid) {
		t.Errorf("P15: % x is on the line", got)
	}
	tick(t, x, 2, "", yes0)
}
