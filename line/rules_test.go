package line_test

import (
	"encoding/hex"
	"strings"
	"testing"

	"duplex/api"
	"duplex/frame"
	"duplex/line"
)

// Here one station is looked at alone: what it puts is taken off the line, and
// what the other one puts is written over by what the test lets it say.

type told struct {
	t  *testing.T
	x  *line.Line
	st int
	at int
}

func tell(t *testing.T, conf api.Config, st int) *told {
	t.Helper()
	return &told{t: t, x: open(t, conf), st: st}
}

// hears lets a tick go by in which the station hears one thing, and looks at
// what it puts, its mode and its events behind that.
func (p *told) hears(what, puts string, mode int, events ...api.Event) {
	p.t.Helper()
	p.at++
	line.SetOnLine(p.x, p.st, "")
	line.SetOnLine(p.x, 1-p.st, raw(p.t, what))
	var own []api.Event
	for _, e := range p.x.Tick() {
		if e.Station == p.st {
			own = append(own, e)
		}
	}
	wantEvents(p.t, p.at, own, events)
	if got := p.x.OnLine(p.st); got != raw(p.t, puts) {
		p.t.Fatalf("tick %d: station %d hears %q and puts % x, want %q", p.at, p.st, what, got, puts)
	}
	if got := p.x.Look(p.st).Mode; got != mode {
		p.t.Fatalf("tick %d: station %d hears %q and has mode %d, want %d", p.at, p.st, what, got, mode)
	}
}

// silence lets some ticks go by in which the station hears and puts nothing.
func (p *told) silence(ticks, mode int) {
	p.t.Helper()
	for range ticks {
		p.hears("", "", mode)
	}
}

func (p *told) submits(texts ...string) {
	p.t.Helper()
	for i, s := range texts {
		submit(p.t, p.x, p.st, text(s), i+1)
	}
}

func block(t *testing.T, b api.Block) string {
	t.Helper()
	s, e := frame.Encode(b, api.Xor)
	if e != api.OK {
		t.Fatalf("P5: %+v: %d", b, e)
	}
	return hex.EncodeToString([]byte(s))
}

// uneven has another number for each wait and count.
var uneven = api.Config{Check: api.Xor, Size: 2, Parts: 1, Queue: 2, First: 5, Second: 7, Reply: 4, Lost: 30, Tries: 2, Waits: 3}

var bidWaits = [2]int{uneven.First, uneven.Second}

func TestBidWithoutAnAnswer(t *testing.T) {
	for st, wait := range bidWaits {
		p := tell(t, uneven, st)
		p.submits("ABC", "D")
		p.hears("", bid, bidding)
		for range 2 {
			p.silence(wait-1, bidding)
			p.hears("", bid, bidding)
		}
		p.silence(wait-1, bidding)
		p.hears("", "", idle, failed(st, 1))
		if got := p.x.Look(st).Queue; got != 1 {
			t.Errorf("P10: a message has failed, and %d are in the queue", got)
		}
		p.silence(2, idle)
		p.hears("", bid, bidding)
	}
}

func TestBidPutOff(t *testing.T) {
	for st, wait := range bidWaits {
		p := tell(t, uneven, st)
		p.submits("ABC")
		p.hears("", bid, bidding)
		for range 3 {
			p.hears(later, "", bidding)
			p.silence(wait-1, bidding)
			p.hears("", bid, bidding)
		}
		p.hears(later, "", idle, failed(st, 1))
		p.silence(40, idle)
	}
}

// A free bid is no try; two times Later make one bid free, not two.
func TestFreeBidIsNoTry(t *testing.T) {
	for st, wait := range bidWaits {
		p := tell(t, uneven, st)
		p.submits("ABC")
		p.hears("", bid, bidding)
		p.silence(wait-1, bidding)
		p.hears(later, "", bidding) // in the tick in which the wait is over
		p.hears(later, "", bidding)
		for range 3 {
			p.silence(wait-1, bidding)
			p.hears("", bid, bidding)
		}
		p.silence(wait-1, bidding)
		p.hears("", "", idle, failed(st, 1))
	}
}

func TestPutOffMoreThanWaits(t *testing.T) {
	for waits := 0; waits <= 7; waits++ {
		conf := uneven
		conf.Waits = waits
		p := tell(t, conf, 0)
		p.submits("ABC")
		p.hears("", bid, bidding)
		for range waits {
			p.hears(later, "", bidding)
		}
		p.hears(later, "", idle, failed(0, 1))
		q := tell(t, conf, 1)
		q.submits("C")
		q.hears("", bid, bidding)
		for range waits {
			q.hears(later, "", bidding)
		}
		q.hears(yes0, blockC, sending) // and is put off 0 times from here on
		for range waits {
			q.hears(later, "", sending)
		}
		q.hears(later, end, idle, failed(1, 1))
	}
}

func TestTriesOfEveryNumber(t *testing.T) {
	for tries := 1; tries <= 7; tries++ {
		conf := uneven
		conf.Tries, conf.Lost = tries, 255
		p := tell(t, conf, 1)
		p.submits("C", "ABC")
		p.hears("", bid, bidding)
		for range tries {
			p.silence(6, bidding)
			p.hears("", bid, bidding)
		}
		p.hears(yes0, blockC, sending)
		for range tries {
			p.hears(no, blockC, sending)
		}
		p.hears(no, end, idle, failed(1, 1))
		p.silence(2, idle)
		p.hears("", bid, bidding)
		p.hears(yes0, blockAB, sending)
		for range tries {
			p.silence(3, sending)
			p.hears("", ask, sending)
		}
		p.hears(yes1, blockC, sending) // tries begin anew with the next block
		for range tries {
			p.silence(3, sending)
			p.hears("", ask, sending)
		}
		p.silence(3, sending)
		p.hears("", end, idle, failed(1, 2))
	}
}

// What P10 does not name for a Bidding station is as Silence to it.
func TestBiddingHearsWhatIsNotNamed(t *testing.T) {
	for st, wait := range bidWaits {
		others := []string{ask, end, no, yes1, blockAB, blockC, "16 16 02", "16 16 ff", "78"}
		if st == 0 {
			others = append(others, bid)
		}
		for _, what := range others {
			p := tell(t, uneven, st)
			p.submits("ABC")
			p.hears("", bid, bidding)
			for range wait - 1 {
				p.hears(what, "", bidding)
			}
			p.hears(what, bid, bidding)
			p.hears(yes0, blockAB, sending)
		}
	}
}

func TestSendingHearsWhatIsNotNamed(t *testing.T) {
	for st := range 2 {
		for _, what := range []string{bid, ask, end, blockAB, blockC, "16 16 02", "16 16 ff"} {
			p := tell(t, uneven, st)
			p.submits("ABC")
			p.hears("", bid, bidding)
			p.hears(yes0, blockAB, sending)
			for range 3 {
				p.hears(what, "", sending)
			}
			p.hears(what, ask, sending)
			p.hears(yes1, blockC, sending)
			p.hears(yes0, end, idle, sent(st, 1))
		}
	}
}

// An Idle station that hears what is not named bids in the same tick.
func TestIdleHearsWhatIsNotNamed(t *testing.T) {
	for st := range 2 {
		for _, what := range []string{ask, end, no, yes0, yes1, later, blockAB, blockC, "16 16 02", "16 16 ff"} {
			p := tell(t, uneven, st)
			p.hears(what, "", idle)
			p.submits("ABC")
			p.hears(what, bid, bidding)
		}
		p := tell(t, uneven, st)
		p.submits("ABC")
		p.hears(bid, yes0, receiving) // hearing comes ahead of bidding
	}
}

func TestReceivingHearsWhatIsNotNamed(t *testing.T) {
	for st := range 2 {
		for _, what := range []string{"", no, yes0, yes1, later, "16 16 ff"} {
			p := tell(t, uneven, st)
			p.submits("C")
			p.hears(bid, yes0, receiving)
			for range 29 {
				p.hears(what, "", receiving)
			}
			p.hears(what, "", idle)
			p.hears("", bid, bidding) // it does not rest
		}
	}
}

func TestStationOneGivesWay(t *testing.T) {
	for _, late := range []bool{false, true} {
		for _, busy := range []bool{false, true} {
			p := tell(t, uneven, 1)
			p.submits("ABC")
			p.hears("", bid, bidding)
			p.silence(2, bidding)
			if late {
				p.silence(4, bidding)
			}
			makeBusy(t, p.x, 1, busy)
			if busy {
				p.hears(bid, later, idle)
			} else {
				p.hears(bid, yes0, receiving)
				p.hears(end, "", idle)
			}
			// A new bid: tries and waits are those of the first.
			p.hears("", bid, bidding)
			for range 2 {
				p.silence(6, bidding)
				p.hears("", bid, bidding)
			}
			p.silence(6, bidding)
			p.hears("", "", idle, failed(1, 1))
		}
	}
}

func TestIdleAndBusy(t *testing.T) {
	for st := range 2 {
		p := tell(t, uneven, st)
		makeBusy(t, p.x, st, true)
		p.hears(bid, later, idle)
		p.hears(bid, later, idle)
		p.hears(blockAB, "", idle)
		makeBusy(t, p.x, st, false)
		p.hears(bid, yes0, receiving)
		makeBusy(t, p.x, st, true)
		p.hears(blockAB, later, receiving)
		p.hears(ask, later, receiving)
		makeBusy(t, p.x, st, false)
		p.hears(ask, yes1, receiving)
		makeBusy(t, p.x, st, true)
		p.hears("16 16 02", no, receiving)
		p.hears(blockC, later, receiving, delivered(st, text("ABC")))
		p.hears(bid, later, idle)
		// Busy or not, it sends.
		p.submits("C")
		p.hears("", bid, bidding)
		p.hears(yes0, blockC, sending)
		p.hears(yes1, end, idle, sent(st, 1))
	}
}

// The yes that is not expected, and No, ask for the same block again.
func TestSendingOnceMore(t *testing.T) {
	for st := range 2 {
		for _, what := range []string{no, yes0} {
			p := tell(t, uneven, st)
			p.submits("ABC")
			p.hears("", bid, bidding)
			p.hears(yes0, blockAB, sending)
			p.hears(what, blockAB, sending)
			p.silence(3, sending)
			p.hears(what, blockAB, sending) // in the tick in which the wait is over
			p.hears(what, end, idle, failed(st, 1))
		}
		for _, what := range []string{no, yes1} {
			p := tell(t, uneven, st)
			p.submits("ABC")
			p.hears("", bid, bidding)
			p.hears(yes0, blockAB, sending)
			p.hears(yes1, blockC, sending)
			p.hears(what, blockC, sending)
			p.hears(what, blockC, sending)
			p.silence(3, sending)
			p.hears("", end, idle, failed(st, 1))
		}
	}
}

// A block that is put again takes the free Ask away; Later does not stop it
// from being put, nor gives a try back.
func TestSendingOnceMoreIsNotFree(t *testing.T) {
	p := tell(t, uneven, 0)
	p.submits("ABC")
	p.hears("", bid, bidding)
	p.hears(yes0, blockAB, sending)
	p.hears(later, "", sending)
	p.hears(no, blockAB, sending)
	p.silence(3, sending)
	p.hears("", ask, sending) // its tries are 3 now
	p.hears(later, "", sending)
	p.silence(3, sending)
	p.hears("", ask, sending) // free
	p.silence(3, sending)
	p.hears("", end, idle, failed(0, 1))
}

// What was free ahead of a new block is not free behind it.
func TestNothingIsFreeForANewBlock(t *testing.T) {
	for st := range 2 {
		p := tell(t, uneven, st)
		p.submits("ABC", "ABC")
		p.hears("", bid, bidding)
		p.hears(later, "", bidding)
		p.hears(yes0, blockAB, sending)
		for range 2 {
			p.silence(3, sending)
			p.hears("", ask, sending)
		}
		p.silence(3, sending)
		p.hears("", end, idle, failed(st, 1))
		p.silence(2, idle)
		p.hears("", bid, bidding)
		p.hears(yes0, blockAB, sending)
		p.hears(later, "", sending)
		p.hears(yes1, blockC, sending)
		for range 2 {
			p.silence(3, sending)
			p.hears("", ask, sending)
		}
		p.silence(3, sending)
		p.hears("", end, idle, failed(st, 2))
	}
}

// Being put off is counted anew for each block, and not for each try.
func TestSendingPutOff(t *testing.T) {
	p := tell(t, uneven, 1)
	p.submits("ABC")
	p.hears("", bid, bidding)
	p.hears(yes0, blockAB, sending)
	for range 3 {
		p.hears(later, "", sending)
		p.silence(3, sending)
		p.hears("", ask, sending)
	}
	p.hears(yes1, blockC, sending)
	p.hears(later, "", sending)
	p.hears(later, "", sending)
	p.hears(no, blockC, sending)
	p.hears(later, "", sending)
	p.hears(later, end, idle, failed(1, 1))
}

func TestReceivingWaits(t *testing.T) {
	for st := range 2 {
		for _, c := range [][2]string{{blockAB, yes1}, {"16 16 02", no}, {ask, yes0}, {bid, yes0}} {
			p := tell(t, uneven, st)
			p.hears(bid, yes0, receiving)
			p.silence(29, receiving)
			p.hears(c[0], c[1], receiving)
			p.silence(29, receiving)
			p.hears("", "", idle)
			p.hears(ask, "", idle)
		}
	}
}

// What was received is dropped by End, by a bid, and by the end of the wait.
func TestReceivedIsDropped(t *testing.T) {
	for st := range 2 {
		for way := range 3 {
			p := tell(t, uneven, st)
			p.hears(bid, yes0, receiving)
			p.hears(block(t, api.Block{Head: "12345678", Parts: []string{"AB"}}), yes1, receiving)
			switch way {
			case 0:
				p.hears(end, "", idle)
				p.hears(bid, yes0, receiving)
			case 1:
				p.hears(bid, yes0, receiving)
			case 2:
				p.silence(29, receiving)
				p.hears("", "", idle)
				p.hears(bid, yes0, receiving)
			}
			p.hears(block(t, api.Block{Head: "h", Parts: []string{"C"}, Last: true}), yes1, receiving, delivered(st, api.Message{Head: "h", Text: "C"}))
		}
	}
}

func TestReceivingHeadsAndMarks(t *testing.T) {
	p := tell(t, uneven, 1)
	p.hears(bid, yes0, receiving)
	p.hears(block(t, api.Block{Head: "12345", Parts: []string{"A", "", "B"}, Clear: true}), yes1, receiving)
	p.hears(block(t, api.Block{Head: "6789", Parts: []string{"x"}, Last: true}), no, receiving)
	p.hears(block(t, api.Block{Head: "678", Parts: []string{"", "C"}}), yes0, receiving)
	p.hears(ask, yes0, receiving)
	p.hears(block(t, api.Block{Head: "9", Parts: []string{"x"}}), no, receiving)
	p.hears(ask, yes0, receiving)
	p.hears(block(t, api.Block{Parts: []string{"D"}, Last: true}), yes1, receiving, delivered(1, api.Message{Head: "12345678", Text: "ABCD"}))
	// The next message of the same turn goes on with the other yes.
	p.hears(block(t, api.Block{Parts: []string{"\x10"}, Clear: true, Last: true}), yes0, receiving, delivered(1, api.Message{Text: "\x10", Clear: true}))
	p.hears(block(t, api.Block{Head: "12345678", Parts: []string{""}, Last: true}), yes1, receiving, delivered(1, api.Message{Head: "12345678"}))
	p.hears(end, "", idle)
}

func TestReceivingTooLong(t *testing.T) {
	long := strings.Repeat("x", 32)
	full := block(t, api.Block{Parts: []string{long, long, long, long}})
	p := tell(t, uneven, 0)
	p.hears(bid, yes0, receiving)
	p.hears(full, yes1, receiving)
	p.hears(full, no, receiving)
	p.hears(block(t, api.Block{Parts: []string{long, long}}), yes0, receiving)
	p.hears(block(t, api.Block{Parts: []string{"123456789"}, Last: true}), no, receiving)
	makeBusy(t, p.x, 0, true)
	p.hears(block(t, api.Block{Parts: []string{"1234", "56789"}, Last: true}), no, receiving)
	makeBusy(t, p.x, 0, false)
	p.hears(ask, yes0, receiving)
	p.hears(block(t, api.Block{Parts: []string{"1234", "5678"}}), yes1, receiving)
	p.silence(29, receiving)
	p.hears(block(t, api.Block{Parts: []string{"1"}, Last: true}), no, receiving)
	p.silence(29, receiving) // No begins the wait anew too
	p.hears(block(t, api.Block{Parts: []string{""}, Last: true}), yes0, receiving, delivered(0, text(strings.Repeat("x", 192)+"12345678")))
	p.hears(full, yes1, receiving) // nothing has been received yet
}

// Station 1 bids in the ticks 1 and 5, station 0 in 3 and 6, and no bid is
// heard: both messages fail in tick 9.
func TestEventsOfStationZeroComeFirst(t *testing.T) {
	x := open(t, small)
	submit(t, x, 1, text("B"), 1)
	for at := 1; at <= 8; at++ {
		tick(t, x, at, map[int]string{3: bid, 6: bid}[at], map[int]string{1: bid, 5: bid}[at])
		line.SetOnLine(x, 0, "")
		line.SetOnLine(x, 1, "")
		if at == 2 {
			submit(t, x, 0, text("A"), 1)
		}
	}
	step(t, x, 9, [2]string{"", ""}, [2]int{idle, idle}, [2]int{0, 0}, failed(0, 1), failed(1, 1))
}
