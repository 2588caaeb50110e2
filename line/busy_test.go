package line_test

import (
	"strings"
	"testing"

	"duplex/api"
	"duplex/line"
)

func TestBusyOfNoStation(t *testing.T) {
	x := open(t, small)
	submit(t, x, 0, text("ABC"), 1)
	for _, on := range []bool{true, false} {
		makeBusy(t, x, 0, !on)
		makeBusy(t, x, 1, !on)
		for _, st := range noStations {
			if e := x.Busy(st, on); e != api.ErrStation {
				t.Errorf("P14: Busy(%d, %v) = %d, want ErrStation", st, on, e)
			}
			for own := range 2 {
				if x.Look(own).Busy == on {
					t.Errorf("P14, P1: Busy(%d, %v) is refused, and station %d is %+v", st, on, own, x.Look(own))
				}
			}
			if x.Look(st) != (api.View{}) {
				t.Errorf("P13: Look(%d) is %+v", st, x.Look(st))
			}
		}
	}
}

// inMode is a line on which a station has a mode, and what is on the line is
// for the other one or for none.
func inMode(t *testing.T, st, mode int) *line.Line {
	t.Helper()
	x := open(t, small)
	switch mode {
	case bidding:
		submit(t, x, st, text("ABC"), 1)
		x.Tick()
	case sending:
		submit(t, x, st, text("ABC"), 1)
		x.Tick()
		x.Tick()
		x.Tick()
	case receiving:
		submit(t, x, 1-st, text("ABC"), 1)
		x.Tick()
		x.Tick()
	}
	wantMode(t, x, st, mode)
	return x
}

// Busy is just what was said last, and stays so from tick to tick, whatever the
// mode; it is a matter of the one station.
func TestBusyInEveryMode(t *testing.T) {
	for st := range 2 {
		for _, mode := range []int{idle, bidding, sending, receiving} {
			x := inMode(t, st, mode)
			for _, on := range []bool{true, true, false, false, true, false, true} {
				makeBusy(t, x, st, on)
			}
			for range 40 {
				x.Tick()
				if !x.Look(st).Busy || x.Look(1-st).Busy {
					t.Fatalf("P14: of mode %d: %+v and %+v", mode, x.Look(st), x.Look(1-st))
				}
			}
			makeBusy(t, x, st, false)
			for range 40 {
				x.Tick()
				if x.Look(st).Busy || x.Look(1-st).Busy {
					t.Fatalf("P14: of mode %d: %+v and %+v", mode, x.Look(st), x.Look(1-st))
				}
			}
		}
	}
}

// sides lays what one station and the other one have on the line into the order
// of the stations.
func sides(st int, own, other string) (string, string) {
	if st == 0 {
		return own, other
	}
	return other, own
}

// wantTick is tick, told from a station's side.
func wantTick(t *testing.T, x *line.Line, at, st int, own, other string, events ...api.Event) {
	t.Helper()
	a, b := sides(st, own, other)
	tick(t, x, at, a, b, events...)
}

// What is asked is whether it is busy in the tick in which it hears: earlier
// and later do not matter.
func TestIdleIsBusyWhenItHearsABid(t *testing.T) {
	for st := range 2 {
		for ahead := range 2 {
			for there := range 2 {
				x := open(t, small)
				submit(t, x, 1-st, text("C"), 1)
				makeBusy(t, x, st, ahead == 1)
				wantTick(t, x, 1, st, "", bid)
				makeBusy(t, x, st, there == 1)
				if there == 1 {
					wantTick(t, x, 2, st, later, "")
					makeBusy(t, x, st, false)
					wantMode(t, x, st, idle)
				} else {
					wantTick(t, x, 2, st, yes0, "")
					makeBusy(t, x, st, true)
					wantMode(t, x, st, receiving)
				}
				wantMode(t, x, 1-st, bidding)
			}
		}
	}
}

// A busy station bids, sends and hears as one that is not.
func TestBusySender(t *testing.T) {
	for st := range 2 {
		for from := 0; from <= 7; from++ {
			x := open(t, small)
			submit(t, x, st, text("ABC"), 1)
			for at := 1; at <= 8; at++ {
				if at == from+1 {
					makeBusy(t, x, st, true)
				}
				own := []string{bid, "", blockAB, "", blockC, "", end, ""}[at-1]
				other := []string{"", yes0, "", yes1, "", yes0, "", ""}[at-1]
				switch at {
				case 6:
					wantTick(t, x, at, st, own, other, delivered(1-st, text("ABC")))
				case 7:
					wantTick(t, x, at, st, own, other, sent(st, 1))
				default:
					wantTick(t, x, at, st, own, other)
				}
			}
			// And says so when it is bidden next.
			submit(t, x, 1-st, text("C"), 1)
			wantTick(t, x, 9, st, "", bid)
			wantTick(t, x, 10, st, later, "")
		}
	}
}

// Busy in the ticks in which a block or an Ask is heard, and not in others.
func TestBusyReceiver(t *testing.T) {
	conf := small
	conf.Waits = 7
	for st := range 2 {
		x := open(t, conf)
		submit(t, x, 1-st, text("ABC"), 1)
		wantTick(t, x, 1, st, "", bid)
		wantTick(t, x, 2, st, yes0, "")
		makeBusy(t, x, st, true)
		wantTick(t, x, 3, st, "", blockAB)
		wantTick(t, x, 4, st, later, "")
		wantTick(t, x, 5, st, "", "")
		makeBusy(t, x, st, false)
		wantTick(t, x, 6, st, "", "")
		makeBusy(t, x, st, true)
		wantTick(t, x, 7, st, "", "")
		wantTick(t, x, 8, st, "", ask)
		wantTick(t, x, 9, st, later, "")
		for at := 10; at <= 12; at++ {
			wantTick(t, x, at, st, "", "")
		}
		wantTick(t, x, 13, st, "", ask)
		makeBusy(t, x, st, false)
		wantTick(t, x, 14, st, yes1, "") // it was received while it was busy
		makeBusy(t, x, st, true)
		wantTick(t, x, 15, st, "", blockC)
		wantTick(t, x, 16, st, later, "", delivered(st, text("ABC")))
		makeBusy(t, x, st, false)
		for at := 17; at <= 19; at++ {
			wantTick(t, x, at, st, "", "")
		}
		wantTick(t, x, 20, st, "", ask)
		wantTick(t, x, 21, st, yes0, "")
		makeBusy(t, x, st, true)
		wantTick(t, x, 22, st, "", end, sent(1-st, 1))
		wantTick(t, x, 23, st, "", "")
		wantMode(t, x, st, idle)
	}
}

// No is no yes: it goes out from a busy station too.
func TestBusyReceiverSaysNo(t *testing.T) {
	for st := range 2 {
		x := inMode(t, st, receiving)
		makeBusy(t, x, st, true)
		wantTick(t, x, 3, st, "", blockAB)
		fault(t, x, api.Turn, 3, 1, api.OK)
		wantTick(t, x, 4, st, no, "")
		wantTick(t, x, 5, st, "", blockAB)
		wantTick(t, x, 6, st, later, "")
		x = inMode(t, st, receiving)
		makeBusy(t, x, st, true)
		wantTick(t, x, 3, st, "", blockAB)
		becomes(t, x, raw(t, block(t, api.Block{Head: "12345678", Parts: []string{"A"}})))
		wantTick(t, x, 4, st, later, "")
		makeBusy(t, x, st, false)
		for at := 5; at <= 7; at++ {
			wantTick(t, x, at, st, "", "")
		}
		wantTick(t, x, 8, st, "", ask)
		wantTick(t, x, 9, st, yes1, "")
		makeBusy(t, x, st, true)
		wantTick(t, x, 10, st, "", blockC)
		becomes(t, x, raw(t, block(t, api.Block{Head: "9", Parts: []string{"A"}})))
		wantTick(t, x, 11, st, no, "")
	}
}

// Station 1 drops its bid for that of station 0, and is Idle, if it is busy:
// it bids again in the next tick, for it does not rest.
func TestBusyStationOneIsBiddingAndBidden(t *testing.T) {
	x := open(t, small)
	submit(t, x, 0, text("A"), 1)
	submit(t, x, 1, text("B"), 1)
	tick(t, x, 1, bid, bid)
	makeBusy(t, x, 1, true)
	tick(t, x, 2, "", "")
	tick(t, x, 3, "", "")
	tick(t, x, 4, bid, "")
	tick(t, x, 5, "", later)
	wantMode(t, x, 1, idle)
	tick(t, x, 6, "", bid) // station 0, put off, is Bidding and does not give way
	wantMode(t, x, 0, bidding)
	tick(t, x, 7, "", "")
	tick(t, x, 8, "", "")
	tick(t, x, 9, bid, "")
	makeBusy(t, x, 1, false)
	tick(t, x, 10, "", yes0)
	tick(t, x, 11, "16 16 02 41 03 40 ff", "")
}

// Station 0 does not give way, so that it is busy does not matter here.
func TestBusyStationZeroIsBiddingAndBidden(t *testing.T) {
	x := open(t, small)
	submit(t, x, 0, text("A"), 1)
	tick(t, x, 1, bid, "")
	lose(t, x)
	makeBusy(t, x, 0, true)
	tick(t, x, 2, "", "")
	submit(t, x, 1, text("B"), 1)
	tick(t, x, 3, "", bid)
	tick(t, x, 4, bid, "")
	tick(t, x, 5, "", yes0)
	tick(t, x, 6, "16 16 02 41 03 40 ff", "")
}

// A receiver that is busy when a new bid comes is Idle, and what it received is
// dropped.
func TestBusyReceiverIsBidden(t *testing.T) {
	x := behindTick3(t)
	submit(t, x, 0, text("D"), 2)
	tick(t, x, 4, "", yes1)
	lose(t, x)
	tick(t, x, 5, "", "")
	tick(t, x, 6, ask, "")
	lose(t, x)
	tick(t, x, 7, "", "")
	tick(t, x, 8, "", "")
	tick(t, x, 9, end, "", failed(0, 1))
	lose(t, x)
	tick(t, x, 10, "", "")
	tick(t, x, 11, "", "")
	tick(t, x, 12, bid, "")
	wantMode(t, x, 1, receiving)
	makeBusy(t, x, 1, true)
	tick(t, x, 13, "", later)
	wantMode(t, x, 1, idle)
	makeBusy(t, x, 1, false)
	for at := 14; at <= 16; at++ {
		tick(t, x, at, "", "")
	}
	tick(t, x, 17, bid, "")
	tick(t, x, 18, "", yes0)
	tick(t, x, 19, "16 16 02 44 03 45 ff", "")
	tick(t, x, 20, "", yes1, delivered(1, text("D")))
}

// Busy and lines that stand beside.
func TestBusyOfOneLineAlone(t *testing.T) {
	x := open(t, small)
	y := open(t, small)
	makeBusy(t, x, 0, true)
	makeBusy(t, x, 1, true)
	if y.Look(0).Busy || y.Look(1).Busy {
		t.Errorf("P2: another line's stations are busy: %+v, %+v", y.Look(0), y.Look(1))
	}
}

// busyUntil plays a line whose receiver is busy until it has put so many times
// Later, and answers the events and the ticks in which they were.
func busyUntil(t *testing.T, conf api.Config, st int, m api.Message, atBids bool, times int) ([]api.Event, []int) {
	t.Helper()
	x := open(t, conf)
	submit(t, x, st, m, 1)
	if !atBids {
		x.Tick()
		x.Tick()
	}
	var events []api.Event
	var ticks []int
	for at := 1; at < 400; at++ {
		makeBusy(t, x, 1-st, times > 0)
		for _, e := range x.Tick() {
			events = append(events, e)
			ticks = append(ticks, at)
		}
		if x.OnLine(1-st) == raw(t, later) {
			times--
		}
	}
	wantQueues(t, x, 0, 0)
	return events, ticks
}

// At Waits times Later the message comes over; at one more it fails: for a bid
// nothing has come over, for a block it has.
func TestBusyWaitsTimesAndOnceMore(t *testing.T) {
	m := api.Message{Head: "h", Text: strings.Repeat("x", 8)}
	for st := range 2 {
		for waits := 0; waits <= 7; waits++ {
			conf := uneven
			conf.Waits, conf.Size, conf.Parts = waits, 4, 2
			wait := bidWaits[st]
			// A bid in tick 1, Later in 2; a Later is heard in the tick behind it, and the bid again a wait behind that.
			events, ticks := busyUntil(t, conf, st, m, true, waits)
			wantEvents(t, waits, events, []api.Event{delivered(1-st, m), sent(st, 1)})
			if want := 1 + waits*(wait+2) + 3; ticks[0] != want {
				t.Errorf("P10: put off %d times, delivered in tick %d, want %d", waits, ticks[0], want)
			}
			events, ticks = busyUntil(t, conf, st, m, true, waits+1)
			wantEvents(t, waits, events, []api.Event{failed(st, 1)})
			if want := 1 + waits*(wait+2) + 2; ticks[0] != want {
				t.Errorf("P10: put off %d times, failed in tick %d, want %d", waits+1, ticks[0], want)
			}
			events, ticks = busyUntil(t, conf, st, m, false, waits)
			wantEvents(t, waits, events, []api.Event{delivered(1-st, m), sent(st, 1)})
			if want := 1 + waits*(conf.Reply+2) + 2; ticks[1] != want {
				t.Errorf("P11: put off %d times, sent in tick %d, want %d", waits, ticks[1], want)
			}
			events, ticks = busyUntil(t, conf, st, m, false, waits+1)
			wantEvents(t, waits, events, []api.Event{delivered(1-st, m), failed(st, 1)})
			if want := 1 + waits*(conf.Reply+2) + 2; ticks[1] != want {
				t.Errorf("P11: put off %d times, failed in tick %d, want %d", waits+1, ticks[1], want)
			}
		}
	}
}
