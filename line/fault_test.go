package line_test

import (
	"math"
	"strings"
	"testing"

	"duplex/api"
	"duplex/line"
)

var (
	kinds      = []int{api.Lose, api.Cut, api.Turn, api.Noise}
	noKinds    = []int{-1, 4, 5, 255, 256, 257, 258, 259, -256, 1 << 32, 1<<32 + 1, 1<<32 + 2, 1<<32 + 3, math.MaxInt, math.MinInt, math.MinInt + 1}
	farNumbers = []int{-256, -2, 1000, 1 << 32, 1<<32 + 1, -1 << 32, 1 << 62, math.MaxInt, math.MaxInt - 1, math.MinInt, math.MinInt + 1}
)

// longest is the longest transmission that a station can put.
var longest = api.Message{Head: "12345678", Text: strings.Repeat("\x10", 128), Clear: true}

// speech is a line on which one station has something, and which one.
type speech struct {
	name    string
	conf    api.Config
	m       api.Message
	sender  int
	ticks   int
	speaker int
}

func (s speech) begin(t *testing.T) *line.Line {
	t.Helper()
	x := open(t, s.conf)
	submit(t, x, s.sender, s.m, 1)
	for range s.ticks {
		x.Tick()
	}
	if x.OnLine(s.speaker) == "" || x.OnLine(1-s.speaker) != "" {
		t.Fatalf("%s: % x and % x are on the line", s.name, x.OnLine(0), x.OnLine(1))
	}
	return x
}

// speeches: each kind of what goes over without a fault, from either station.
func speeches() []speech {
	wide := small
	wide.Size, wide.Parts, wide.Check = 32, 4, api.Cyclic
	var out []speech
	for st := range 2 {
		abc := text("ABC")
		out = append(out,
			speech{"Bid", small, abc, st, 1, st}, speech{"Yes0", small, abc, st, 2, 1 - st},
			speech{"first block", small, abc, st, 3, st}, speech{"Yes1", small, abc, st, 4, 1 - st},
			speech{"last block", small, abc, st, 5, st}, speech{"End", small, abc, st, 7, st},
			speech{"longest block", wide, longest, st, 3, st})
	}
	return out
}

// wantFault does a fault at the beginning of a speech, and tells if what is
// then on the line is not what is wanted.
func wantFault(t *testing.T, s speech, kind, place, value int, want string) {
	t.Helper()
	x := s.begin(t)
	fault(t, x, kind, place, value, api.OK)
	if got := x.OnLine(s.speaker); got != want {
		t.Fatalf("P15: %s: Fault(%d, %d, %d) leaves % x, want % x", s.name, kind, place, value, got, want)
	}
	if got := x.OnLine(1 - s.speaker); got != "" {
		t.Fatalf("P15: %s: Fault(%d, %d, %d): the other station has % x on the line", s.name, kind, place, value, got)
	}
}

func TestFaultOfNoKind(t *testing.T) {
	for _, s := range speeches() {
		x := s.begin(t)
		for _, kind := range noKinds {
			for _, place := range []int{0, 1, -1, math.MaxInt} {
				for _, value := range []int{0, 1, 255, -1, math.MinInt} {
					fault(t, x, kind, place, value, api.ErrFault)
				}
			}
		}
	}
}

func TestLose(t *testing.T) {
	for _, s := range speeches() {
		for _, place := range append([]int{-1, 0, 1, 5, 6, 319, 320}, farNumbers...) {
			for _, value := range append([]int{-1, 0, 1, 255, 256}, farNumbers...) {
				wantFault(t, s, api.Lose, place, value, "")
			}
		}
	}
}

func TestCutAtEveryPlace(t *testing.T) {
	for _, s := range speeches() {
		x := s.begin(t)
		whole := x.OnLine(s.speaker)
		for _, value := range append([]int{-1, 0, 1, 255, 256}, farNumbers...) {
			for place := 0; place <= len(whole); place++ {
				wantFault(t, s, api.Cut, place, value, whole[:place])
			}
			for _, place := range append([]int{-1, len(whole) + 1, len(whole) + 2}, farNumbers...) {
				fault(t, x, api.Cut, place, value, api.ErrFault)
			}
		}
	}
}

func TestTurnAtEveryPlace(t *testing.T) {
	for _, s := range speeches() {
		x := s.begin(t)
		whole := x.OnLine(s.speaker)
		for _, value := range []int{1, 2, 0x10, 0x7f, 0x80, 0xfe, 0xff} {
			for place := range len(whole) {
				want := []byte(whole)
				want[place] ^= byte(value)
				wantFault(t, s, api.Turn, place, value, string(want))
			}
			for _, place := range append([]int{-1, len(whole), len(whole) + 1}, farNumbers...) {
				fault(t, x, api.Turn, place, value, api.ErrFault)
			}
		}
		for _, value := range append([]int{-255, -1, 0, 256, 257, 511, 512}, farNumbers...) {
			for place := -1; place <= len(whole)+1; place++ {
				fault(t, x, api.Turn, place, value, api.ErrFault)
			}
		}
	}
}

func TestTurnWithEveryValue(t *testing.T) {
	x := open(t, small)
	submit(t, x, 1, text("A"), 1)
	x.Tick()
	want := []byte(raw(t, bid))
	for value := 1; value <= 255; value++ {
		for place := range want {
			fault(t, x, api.Turn, place, value, api.OK)
			want[place] ^= byte(value)
			if got := x.OnLine(1); got != string(want) {
				t.Fatalf("P15: Fault(Turn, %d, %d) leaves % x, want % x", place, value, got, want)
			}
		}
	}
}

func TestNoiseAtEveryPlace(t *testing.T) {
	for _, s := range speeches() {
		x := s.begin(t)
		whole := x.OnLine(s.speaker)
		for _, value := range []int{0, 1, 0x10, 0x16, 0x41, 0x80, 0xfe, 0xff} {
			for place := 0; place <= len(whole); place++ {
				wantFault(t, s, api.Noise, place, value, whole[:place]+string([]byte{byte(value)})+whole[place:])
			}
			for _, place := range append([]int{-1, len(whole) + 1, len(whole) + 2}, farNumbers...) {
				fault(t, x, api.Noise, place, value, api.ErrFault)
			}
		}
		for _, value := range append([]int{-255, -1, 256, 257, 511, 512}, farNumbers...) {
			for place := -1; place <= len(whole)+1; place++ {
				fault(t, x, api.Noise, place, value, api.ErrFault)
			}
		}
	}
}

func TestNoiseWithEveryValue(t *testing.T) {
	x := open(t, small)
	submit(t, x, 0, text("A"), 1)
	x.Tick()
	want := raw(t, bid)
	for value := 0; value <= 255; value++ {
		fault(t, x, api.Noise, 3, value, api.OK)
		want = want[:3] + string([]byte{byte(value)}) + want[3:]
		if got := x.OnLine(0); got != want {
			t.Fatalf("P15: Fault(Noise, 3, %d) leaves % x, want % x", value, got, want)
		}
	}
}

// Noise makes a transmission as long as 320 bytes, and none longer; all other
// faults go on then, and a shorter one has room for noise again.
func TestNoiseUpToMaxLine(t *testing.T) {
	for _, s := range speeches() {
		for _, atEnd := range []bool{false, true} {
			x := s.begin(t)
			want := x.OnLine(s.speaker)
			for len(want) < 320 {
				if atEnd {
					fault(t, x, api.Noise, len(want), 'z', api.OK)
					want += "z"
				} else {
					fault(t, x, api.Noise, 0, 'a', api.OK)
					want = "a" + want
				}
			}
			for _, place := range []int{-1, 0, 1, 160, 319, 320, 321} {
				for _, value := range []int{-1, 0, 1, 255, 256} {
					fault(t, x, api.Noise, place, value, api.ErrFault)
				}
			}
			if got := x.OnLine(s.speaker); got != want {
				t.Fatalf("P15: %s: noise leaves % x, want % x", s.name, got, want)
			}
			fault(t, x, api.Turn, 320, 1, api.ErrFault)
			fault(t, x, api.Turn, 319, 1, api.OK)
			fault(t, x, api.Turn, 319, 1, api.OK)
			fault(t, x, api.Cut, 321, 0, api.ErrFault)
			fault(t, x, api.Cut, 320, 0, api.OK)
			fault(t, x, api.Noise, 0, 0, api.ErrFault)
			fault(t, x, api.Cut, 319, 0, api.OK)
			fault(t, x, api.Noise, 320, 'q', api.ErrFault)
			fault(t, x, api.Noise, 319, 'q', api.OK)
			fault(t, x, api.Noise, 320, 'q', api.ErrFault)
			if got := x.OnLine(s.speaker); got != want[:319]+"q" {
				t.Fatalf("P15: %s: % x is on the line", s.name, got)
			}
			fault(t, x, api.Lose, 0, 0, api.OK)
		}
	}
}

// ErrLine comes ahead of ErrFault: also what is no fault is ErrLine where there
// is nothing to change, or too much.
func wantErrLine(t *testing.T, x *line.Line) {
	t.Helper()
	for _, kind := range append(append([]int{}, kinds...), noKinds...) {
		for _, place := range append([]int{-1, 0, 1, 5, 6}, farNumbers...) {
			for _, value := range []int{-1, 0, 1, 255, 256, math.MaxInt} {
				fault(t, x, kind, place, value, api.ErrLine)
			}
		}
	}
}

func TestFaultOnAnEmptyLine(t *testing.T) {
	x := open(t, small)
	wantErrLine(t, x)
	x.Tick()
	wantErrLine(t, x)
	submit(t, x, 0, text("ABC"), 1)
	wantErrLine(t, x)
	// In the midst of a turn, and behind it.
	x = behindTick3(t)
	tick(t, x, 4, "", yes1)
	lose(t, x)
	tick(t, x, 5, "", "")
	wantErrLine(t, x)
	tick(t, x, 6, ask, "")
	tick(t, x, 7, "", yes1)
	goesOn(t, x, 8)
	wantErrLine(t, x)
}

func TestFaultWhereBothSpeak(t *testing.T) {
	x := open(t, small)
	submit(t, x, 0, text("A"), 1)
	submit(t, x, 1, text("B"), 1)
	tick(t, x, 1, bid, bid)
	wantErrLine(t, x)
	tick(t, x, 2, "", "")
	wantErrLine(t, x)
	tick(t, x, 3, "", "")
	tick(t, x, 4, bid, "")
	fault(t, x, 4, 0, 0, api.ErrFault)
	tick(t, x, 5, "", yes0)
}

// Where nothing is left the station has nothing on the line, whichever fault
// left nothing, and nothing is heard of it.
func TestNothingIsLeft(t *testing.T) {
	for _, s := range speeches() {
		for way := range 3 {
			x := s.begin(t)
			switch way {
			case 0:
				fault(t, x, api.Lose, 0, 0, api.OK)
			case 1:
				fault(t, x, api.Cut, 0, 0, api.OK)
			case 2:
				for n := len(x.OnLine(s.speaker)) - 1; n >= 0; n-- {
					fault(t, x, api.Cut, n, n, api.OK)
				}
			}
			if x.OnLine(0) != "" || x.OnLine(1) != "" {
				t.Fatalf("P15: %s: % x and % x are left", s.name, x.OnLine(0), x.OnLine(1))
			}
			wantErrLine(t, x)
			hearer := x.Look(1 - s.speaker)
			wantEvents(t, s.ticks+1, x.Tick(), nil)
			if got := x.Look(1 - s.speaker); got != hearer {
				t.Errorf("P9: %s is lost, and the one that would have heard it is %+v, want %+v", s.name, got, hearer)
			}
			if x.OnLine(0) != "" || x.OnLine(1) != "" {
				t.Errorf("P9: %s is lost, and % x and % x are put", s.name, x.OnLine(0), x.OnLine(1))
			}
		}
	}
}

// A fault is for the transmission that is there, not for the next one, nor for
// another line's.
func TestFaultIsForOneTransmission(t *testing.T) {
	for st := range 2 {
		x := open(t, small)
		y := open(t, small)
		submit(t, x, st, text("A"), 1)
		submit(t, y, st, text("A"), 1)
		wantTick(t, x, 1, st, bid, "")
		wantTick(t, y, 1, st, bid, "")
		kept := x.OnLine(st)
		fault(t, x, api.Turn, 2, 0xff, api.OK)
		if kept != raw(t, bid) || y.OnLine(st) != raw(t, bid) {
			t.Errorf("P2: Fault has changed % x, % x", kept, y.OnLine(st))
		}
		wait := []int{small.First, small.Second}[st]
		for at := 2; at <= wait; at++ {
			wantTick(t, x, at, st, "", "")
		}
		wantTick(t, x, wait+1, st, bid, "")
		wantTick(t, x, wait+2, st, "", yes0)
		wantTick(t, y, 2, st, "", yes0)
	}
}

// bidden tells whether a bid is heard as one behind a fault.
func bidden(t *testing.T, st, kind, place, value int) bool {
	t.Helper()
	x := open(t, small)
	submit(t, x, st, text("A"), 1)
	x.Tick()
	fault(t, x, kind, place, value, api.OK)
	x.Tick()
	wantMode(t, x, st, bidding)
	if x.OnLine(1-st) == "" {
		wantMode(t, x, 1-st, idle)
		return false
	}
	if x.OnLine(1-st) != raw(t, yes0) {
		t.Fatalf("P10: Fault(%d, %d, %d): an Idle station puts % x", kind, place, value, x.OnLine(1-st))
	}
	wantMode(t, x, 1-st, receiving)
	return true
}

// What an Idle station hears of a bid with one fault in it: noise ahead of the
// two SYN does not matter, nor SYN beside them; all else makes it no bid.
func TestBidWithAFault(t *testing.T) {
	for st := range 2 {
		for place := range 6 {
			if got := bidden(t, st, api.Cut, place, 0); got != (place == 5) {
				t.Errorf("P9: a bid of which %d bytes are left is heard: %v", place, got)
			}
			for value := range 256 {
				want := place == 0 || place <= 2 && value == 0x16
				if got := bidden(t, st, api.Noise, place, value); got != want {
					t.Errorf("P9: a bid with a byte %x at %d is heard: %v", value, place, got)
				}
				if place < 5 && value > 0 && bidden(t, st, api.Turn, place, value) {
					t.Errorf("P9: a bid with the byte at %d turned by %x is heard", place, value)
				}
			}
		}
	}
}

// Noise of 315 bytes ahead of a bid does not hide it.
func TestBidBehindMuchNoise(t *testing.T) {
	for st := range 2 {
		x := open(t, small)
		submit(t, x, st, text("A"), 1)
		x.Tick()
		for i := range 315 {
			fault(t, x, api.Noise, i, 0x78, api.OK)
		}
		wantTick(t, x, 2, st, "", yes0)
	}
}

// An answer that becomes another one is heard as that: answers have no check.
func TestAnswersTurned(t *testing.T) {
	for st := range 2 {
		// Yes0 to a bid becomes Later, then Yes1.
		x := open(t, small)
		submit(t, x, st, text("ABC"), 1)
		wantTick(t, x, 1, st, bid, "")
		wantTick(t, x, 2, st, "", yes0)
		fault(t, x, api.Turn, 3, 0x30^0x3b, api.OK)
		wait := []int{small.First, small.Second}[st]
		for at := 3; at < 3+wait; at++ {
			wantTick(t, x, at, st, "", "")
		}
		wantTick(t, x, 3+wait, st, bid, "")
		wantTick(t, x, 4+wait, st, "", yes0)
		fault(t, x, api.Turn, 3, 1, api.OK)
		for at := 5 + wait; at < 3+2*wait; at++ {
			wantTick(t, x, at, st, "", "")
		}
		wantTick(t, x, 3+2*wait, st, bid, "")
		wantTick(t, x, 4+2*wait, st, "", yes0)
		wantTick(t, x, 5+2*wait, st, blockAB, "")
		// Yes1 to a block becomes Yes0: it is sent once more, and received twice.
		wantTick(t, x, 6+2*wait, st, "", yes1)
		fault(t, x, api.Turn, 3, 1, api.OK)
		wantTick(t, x, 7+2*wait, st, blockAB, "")
		wantTick(t, x, 8+2*wait, st, "", yes0)
		fault(t, x, api.Turn, 3, 1, api.OK)
		wantTick(t, x, 9+2*wait, st, blockC, "")
		wantTick(t, x, 10+2*wait, st, "", yes1, delivered(1-st, text("ABABC")))
		wantTick(t, x, 11+2*wait, st, blockC, "")
		wantTick(t, x, 12+2*wait, st, "", yes0, delivered(1-st, text("C")))
		wantTick(t, x, 13+2*wait, st, end, "", sent(st, 1))
	}
}

// End becomes Bid, by noise, and the one that receives answers it.
func TestEndBecomesBid(t *testing.T) {
	for st := range 2 {
		x := open(t, small)
		submit(t, x, st, text("C"), 1)
		for range 4 {
			x.Tick()
		}
		wantTick(t, x, 5, st, end, "", sent(st, 1))
		fault(t, x, api.Noise, 3, 5, api.OK)
		wantTick(t, x, 6, st, "", yes0)
		for at := 7; at <= 16; at++ {
			wantTick(t, x, at, st, "", "")
			wantMode(t, x, 1-st, receiving)
		}
		wantTick(t, x, 17, st, "", "")
		wantMode(t, x, 1-st, idle)
	}
}
