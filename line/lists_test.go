package line_test

import (
	"math/rand"
	"testing"

	"duplex/api"
	"duplex/line"
)

// spoil writes into a list and into its spare room.
func spoil(l []api.Event) {
	room := l[:cap(l)]
	for i := range room {
		room[i] = api.Event{Kind: 9, Station: 9, Number: 9, Message: api.Message{Head: "spoilt", Text: "spoilt", Clear: true}}
	}
	_ = append(l, api.Event{Kind: 8})
}

// P2: the lists of events are the caller's: what is written into one changes
// neither an earlier nor a later one.
func TestEventsAreTheCallers(t *testing.T) {
	r := rand.New(rand.NewSource(2))
	for range 50 {
		p := newPair(t, drawnConfig(r))
		var kept, copies [][]api.Event
		for at := range 500 {
			if r.Intn(5) == 0 {
				p.submit(r.Intn(2), drawnMessage(r))
			}
			l := p.tick()
			if at%2 == 0 {
				spoil(l)
				continue
			}
			kept = append(kept, l)
			copies = append(copies, append([]api.Event{}, l...))
		}
		for i := range kept {
			wantEvents(t, i, kept[i], copies[i])
		}
	}
}

// P2: lines that go on side by side do what they would do alone.
func TestLinesDoNotTouch(t *testing.T) {
	r := rand.New(rand.NewSource(3))
	for range 20 {
		conf := drawnConfig(r)
		pairs := []*pair{newPair(t, conf), newPair(t, conf), newPair(t, drawnConfig(r)), newPair(t, small)}
		for range 2000 {
			p := pairs[r.Intn(len(pairs))]
			switch r.Intn(8) {
			case 0:
				p.submit(r.Intn(2), drawnMessage(r))
			case 1:
				st := r.Intn(2)
				p.setOnLine(st, drawnTransmission(r, p.x.OnLine(st), p.d.conf.Check))
			case 2:
				p.fault(r.Intn(4), r.Intn(6), r.Intn(256))
			case 3:
				p.busy(r.Intn(2), r.Intn(3) == 0)
			default:
				spoil(p.tick())
			}
			for _, q := range pairs {
				q.compare()
			}
		}
	}
}

// P2: a configuration is not kept as the caller's.
func TestConfigIsNotKept(t *testing.T) {
	conf := small
	x := open(t, conf)
	for _, f := range fields(&conf) {
		*f = 1
	}
	submit(t, x, 0, text("ABC"), 1)
	submit(t, x, 0, text("C"), 2)
	tick(t, x, 1, bid, "")
	tick(t, x, 2, "", yes0)
	tick(t, x, 3, blockAB, "")
}

// P1: what is refused changes nothing, also in the midst of a turn.
func TestRefusedChangesNothing(t *testing.T) {
	r := rand.New(rand.NewSource(4))
	for range 50 {
		p := newPair(t, drawnConfig(r))
		for range 300 {
			if r.Intn(10) == 0 {
				p.submit(r.Intn(2), drawnMessage(r))
			}
			for range r.Intn(3) {
				p.submit(r.Intn(2), wrongMessage(r))
				p.submit(noStations[r.Intn(len(noStations))], drawnMessage(r))
				p.busy(noStations[r.Intn(len(noStations))], r.Intn(2) == 0)
				p.fault(4+r.Intn(3), 0, 1)
				p.fault(1+r.Intn(3), -1-r.Intn(3), 1)
				p.fault(2+r.Intn(2), 0, 256+r.Intn(3))
				line.New(api.Config{Check: r.Intn(3), Size: r.Intn(100), Tries: r.Intn(9)})
				p.x.OnLine(int(r.Uint64()))
				p.x.Look(int(r.Uint64()))
			}
			p.tick()
		}
	}
}

// P1: no order of calls and no number makes a call panic.
func TestCallsInAnyOrder(t *testing.T) {
	r := rand.New(rand.NewSource(5))
	number := func() int {
		switch r.Intn(3) {
		case 0:
			return r.Intn(5) - 1
		case 1:
			return noStations[r.Intn(len(noStations))]
		}
		return int(r.Uint64())
	}
	for range 200 {
		x := open(t, drawnConfig(r))
		for range 500 {
			switch r.Intn(8) {
			case 0:
				x.Submit(number(), drawnMessage(r))
			case 1:
				x.Submit(r.Intn(2), drawnMessage(r))
			case 2:
				x.OnLine(number())
			case 3:
				x.Look(number())
			case 4:
				x.Busy(number(), r.Intn(2) == 0)
			case 5:
				x.Fault(number(), number(), number())
			default:
				x.Tick()
			}
		}
	}
}
