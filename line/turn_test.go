package line_test

import (
	"testing"

	"duplex/api"
)

const (
	idle      = api.Idle
	bidding   = api.Bidding
	sending   = api.Sending
	receiving = api.Receiving
)

func TestExample8(t *testing.T) {
	x := open(t, small)
	submit(t, x, 0, text("ABC"), 1)
	step(t, x, 1, [2]string{bid, ""}, [2]int{bidding, idle}, [2]int{1, 0})
	step(t, x, 2, [2]string{"", yes0}, [2]int{bidding, receiving}, [2]int{1, 0})
	step(t, x, 3, [2]string{blockAB, ""}, [2]int{sending, receiving}, [2]int{1, 0})
	step(t, x, 4, [2]string{"", yes1}, [2]int{sending, receiving}, [2]int{1, 0})
	step(t, x, 5, [2]string{blockC, ""}, [2]int{sending, receiving}, [2]int{1, 0})
	step(t, x, 6, [2]string{"", yes0}, [2]int{sending, receiving}, [2]int{1, 0}, delivered(1, text("ABC")))
	step(t, x, 7, [2]string{end, ""}, [2]int{idle, receiving}, [2]int{0, 0}, sent(0, 1))
	step(t, x, 8, [2]string{"", ""}, [2]int{idle, idle}, [2]int{0, 0})
	for at := 9; at < 50; at++ {
		step(t, x, at, [2]string{"", ""}, [2]int{idle, idle}, [2]int{0, 0})
	}
}

// Station 1 sends as station 0 does.
func TestExample8FromTheOtherSide(t *testing.T) {
	x := open(t, small)
	submit(t, x, 1, text("ABC"), 1)
	step(t, x, 1, [2]string{"", bid}, [2]int{idle, bidding}, [2]int{0, 1})
	step(t, x, 2, [2]string{yes0, ""}, [2]int{receiving, bidding}, [2]int{0, 1})
	step(t, x, 3, [2]string{"", blockAB}, [2]int{receiving, sending}, [2]int{0, 1})
	step(t, x, 4, [2]string{yes1, ""}, [2]int{receiving, sending}, [2]int{0, 1})
	step(t, x, 5, [2]string{"", blockC}, [2]int{receiving, sending}, [2]int{0, 1})
	step(t, x, 6, [2]string{yes0, ""}, [2]int{receiving, sending}, [2]int{0, 1}, delivered(0, text("ABC")))
	step(t, x, 7, [2]string{"", end}, [2]int{receiving, idle}, [2]int{0, 0}, sent(1, 1))
	step(t, x, 8, [2]string{"", ""}, [2]int{idle, idle}, [2]int{0, 0})
}

// The station rests up to tick 10, whenever its next message came.
func TestExample8WithAnotherMessage(t *testing.T) {
	for behind := 0; behind <= 12; behind++ {
		x := open(t, small)
		submit(t, x, 0, text("ABC"), 1)
		for at := 1; at <= 13; at++ {
			if behind == at-1 {
				submit(t, x, 0, text("C"), 2)
			}
			x.Tick()
			bids := at == 10
			if behind >= 10 {
				bids = at == behind+1
			}
			if at > 7 && (x.OnLine(0) == raw(t, bid)) != bids {
				t.Errorf("P9: a message that came behind tick %d: % x is on the line behind tick %d", behind, x.OnLine(0), at)
			}
		}
	}
}

func TestExample9(t *testing.T) {
	x := open(t, small)
	submit(t, x, 1, text("B"), 1)
	submit(t, x, 0, text("A"), 1)
	step(t, x, 1, [2]string{bid, bid}, [2]int{bidding, bidding}, [2]int{1, 1})
	step(t, x, 2, [2]string{"", ""}, [2]int{bidding, bidding}, [2]int{1, 1})
	step(t, x, 3, [2]string{"", ""}, [2]int{bidding, bidding}, [2]int{1, 1})
	step(t, x, 4, [2]string{bid, ""}, [2]int{bidding, bidding}, [2]int{1, 1})
	step(t, x, 5, [2]string{"", yes0}, [2]int{bidding, receiving}, [2]int{1, 1})
	step(t, x, 6, [2]string{"16 16 02 41 03 40 ff", ""}, [2]int{sending, receiving}, [2]int{1, 1})
	step(t, x, 7, [2]string{"", yes1}, [2]int{sending, receiving}, [2]int{1, 1}, delivered(1, text("A")))
	step(t, x, 8, [2]string{end, ""}, [2]int{idle, receiving}, [2]int{0, 1}, sent(0, 1))
	step(t, x, 9, [2]string{"", ""}, [2]int{idle, idle}, [2]int{0, 1})
	// Station 1 does not rest: its bid was dropped, its turn did not end.
	step(t, x, 10, [2]string{"", bid}, [2]int{idle, bidding}, [2]int{0, 1})
	step(t, x, 11, [2]string{yes0, ""}, [2]int{receiving, bidding}, [2]int{0, 1})
	step(t, x, 12, [2]string{"", "16 16 02 42 03 43 ff"}, [2]int{receiving, sending}, [2]int{0, 1})
	step(t, x, 13, [2]string{yes1, ""}, [2]int{receiving, sending}, [2]int{0, 1}, delivered(0, text("B")))
	step(t, x, 14, [2]string{"", end}, [2]int{receiving, idle}, [2]int{0, 0}, sent(1, 1))
	step(t, x, 15, [2]string{"", ""}, [2]int{idle, idle}, [2]int{0, 0})
}

// Who bids again first is settled by First alone: Second is above it.
func TestBothBidWithAllWaits(t *testing.T) {
	for first := 3; first <= 19; first++ {
		for second := first + 1; second <= 20; second++ {
			conf := small
			conf.First, conf.Second = first, second
			x := open(t, conf)
			submit(t, x, 0, text("A"), 1)
			submit(t, x, 1, text("B"), 1)
			tick(t, x, 1, bid, bid)
			for at := 2; at <= first; at++ {
				tick(t, x, at, "", "")
			}
			tick(t, x, first+1, bid, "")
			tick(t, x, first+2, "", yes0)
			wantMode(t, x, 1, receiving)
		}
	}
}

// A station that rests answers a bid, and goes on resting behind it.
func TestRestDoesNotStopAnAnswer(t *testing.T) {
	x := open(t, small)
	submit(t, x, 0, text("A"), 1)
	submit(t, x, 0, text("B"), 2)
	for range 4 {
		x.Tick()
	}
	submit(t, x, 1, text("C"), 1)
	tick(t, x, 5, end, "", sent(0, 1))
	tick(t, x, 6, "", "")
	tick(t, x, 7, "", bid)
	tick(t, x, 8, yes0, "") // and this is where it would bid
	tick(t, x, 9, "", blockC)
	tick(t, x, 10, yes1, "", delivered(0, text("C")))
	tick(t, x, 11, "", end, sent(1, 1))
	tick(t, x, 12, "", "")
	tick(t, x, 13, bid, "")
}

func TestNoSuchStation(t *testing.T) {
	x := open(t, small)
	submit(t, x, 0, text("A"), 1)
	submit(t, x, 1, text("B"), 1)
	x.Tick()
	for _, st := range noStations {
		if x.OnLine(st) != "" || x.Look(st) != (api.View{}) {
			t.Errorf("P13: station %d: % x, %+v", st, x.OnLine(st), x.Look(st))
		}
	}
	step(t, x, 2, [2]string{"", ""}, [2]int{bidding, bidding}, [2]int{1, 1})
}
