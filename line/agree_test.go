package line_test

import (
	"fmt"
	"math/rand"
	"strings"
	"testing"

	"duplex/api"
	"duplex/frame"
	"duplex/line"
)

// pair is a line of the program and one of the document, to which the same is
// done.
type pair struct {
	t    *testing.T
	x    *line.Line
	d    *docLine
	done []string
}

func newPair(t *testing.T, conf api.Config) *pair {
	t.Helper()
	return &pair{t: t, x: open(t, conf), d: newDocLine(conf)}
}

func (p *pair) wrong(format string, a ...any) {
	p.t.Helper()
	from := max(0, len(p.done)-40)
	p.t.Fatalf("%s\nconfig %+v, behind %s", fmt.Sprintf(format, a...), p.d.conf, strings.Join(p.done[from:], ", "))
}

func (p *pair) submit(st int, m api.Message) {
	p.t.Helper()
	p.done = append(p.done, fmt.Sprintf("Submit(%d, %+v)", st, m))
	n, e := p.x.Submit(st, m)
	wantN, wantE := p.d.submit(st, m)
	if n != wantN || e != wantE {
		p.wrong("P8: Submit = %d, %d, want %d, %d", n, e, wantN, wantE)
	}
	p.compare()
}

func (p *pair) tick() []api.Event {
	p.t.Helper()
	p.done = append(p.done, "Tick()")
	events := p.x.Tick()
	want := p.d.tick()
	if len(events) != len(want) {
		p.wrong("P9: events %+v, want %+v", events, want)
	}
	for i := range want {
		if events[i] != want[i] {
			p.wrong("P9: events %+v, want %+v", events, want)
		}
	}
	p.compare()
	return events
}

func (p *pair) setOnLine(st int, s string) {
	p.done = append(p.done, fmt.Sprintf("on the line of %d: % x", st, s))
	line.SetOnLine(p.x, st, s)
	p.d.s[st].onLine = s
}

func (p *pair) busy(st int, on bool) {
	p.t.Helper()
	p.done = append(p.done, fmt.Sprintf("Busy(%d, %v)", st, on))
	e := p.x.Busy(st, on)
	if want := p.d.busy(st, on); e != want {
		p.wrong("P14: Busy = %d, want %d", e, want)
	}
	p.compare()
}

func (p *pair) fault(kind, place, value int) api.Errno {
	p.t.Helper()
	p.done = append(p.done, fmt.Sprintf("Fault(%d, %d, %d)", kind, place, value))
	e := p.x.Fault(kind, place, value)
	if want := p.d.fault(kind, place, value); e != want {
		p.wrong("P15: Fault = %d, want %d", e, want)
	}
	p.compare()
	return e
}

func (p *pair) compare() {
	p.t.Helper()
	for st := range 2 {
		s := &p.d.s[st]
		if got := p.x.OnLine(st); got != s.onLine {
			p.wrong("P13: OnLine(%d) = % x, want % x", st, got, s.onLine)
		}
		if got, want := p.x.Look(st), (api.View{Mode: s.mode, Queue: len(s.queue), Busy: s.busy}); got != want {
			p.wrong("P13: Look(%d) = %+v, want %+v", st, got, want)
		}
	}
}

func drawnMessage(r *rand.Rand) api.Message {
	letters := "ABC\x00\xff"
	m := api.Message{Clear: r.Intn(3) == 0}
	if m.Clear {
		letters += controls
	}
	long := []int{0, 1, 5, 40, 200}[r.Intn(5)]
	b := make([]byte, r.Intn(long+1))
	for i := range b {
		b[i] = letters[r.Intn(len(letters))]
	}
	m.Text = string(b)
	m.Head = "12345678"[:r.Intn(9)]
	return m
}

func wrongMessage(r *rand.Rand) api.Message {
	return []api.Message{
		{Head: "123456789"}, {Head: "\x1f"}, {Text: "\x10"}, {Text: strings.Repeat("a", 201)}, {Text: strings.Repeat("a", 201), Clear: true}, {Head: "\x01", Text: "\x01"},
	}[r.Intn(6)]
}

// Nothing is lost and nobody is busy: all messages come over, whole, in order
// and once, as the document's line has it tick by tick.
func TestDrawnLinesWithoutFaults(t *testing.T) {
	r := rand.New(rand.NewSource(9))
	for range 300 {
		p := newPair(t, drawnConfig(r))
		var waiting [2][]api.Message
		var accepted, told [2]int
		for at := 0; at < 600 || len(waiting[0])+len(waiting[1]) > 0; at++ {
			if at > 40000 {
				p.wrong("P11: messages are still under way: %+v", waiting)
			}
			if at < 600 && r.Intn(20) == 0 {
				st := r.Intn(2)
				m := drawnMessage(r)
				if len(p.d.s[st].queue) < p.d.conf.Queue {
					waiting[st] = append(waiting[st], m)
					accepted[st]++
				}
				p.submit(st, m)
				p.submit(r.Intn(4)-1, wrongMessage(r))
			}
			for _, e := range p.tick() {
				switch e.Kind {
				case api.Delivered:
					from := 1 - e.Station
					if len(waiting[from]) == 0 || e.Message != waiting[from][0] {
						p.wrong("P12: %+v is delivered, want one of %+v", e, waiting[from])
					}
					waiting[from] = waiting[from][1:]
				case api.Sent:
					told[e.Station]++
					if e.Number != told[e.Station] {
						p.wrong("P11: %+v, want the number %d", e, told[e.Station])
					}
				default:
					p.wrong("P10: %+v, where nothing is lost", e)
				}
			}
		}
		for range 60 {
			for _, e := range p.tick() {
				told[e.Station]++
			}
		}
		if told != accepted {
			p.wrong("P11: %v messages joined, %v are sent", accepted, told)
		}
		for st := range 2 {
			if p.x.Look(st) != (api.View{}) || p.x.OnLine(st) != "" {
				p.wrong("P11: at the end station %d is %+v", st, p.x.Look(st))
			}
		}
	}
}

// drawnTransmission: anything that a fault could make of what is on the line,
// and what other stations could have put there.
func drawnTransmission(r *rand.Rand, s string, check int) string {
	switch r.Intn(10) {
	case 0, 1, 2:
		return ""
	case 3:
		return s[:r.Intn(len(s)+1)]
	case 4:
		b := []byte(s)
		if len(b) > 0 {
			b[r.Intn(len(b))] ^= byte(1 + r.Intn(255))
		}
		return string(b)
	case 5:
		at := r.Intn(len(s) + 1)
		return s[:at] + string([]byte{byte(r.Intn(256))}) + s[at:]
	case 6, 7:
		b := api.Block{Head: "1234567"[:r.Intn(8)*r.Intn(2)], Parts: []string{strings.Repeat("x", r.Intn(33))}, Clear: r.Intn(2) == 0, Last: r.Intn(4) == 0}
		for r.Intn(3) > 0 && len(b.Parts) < 4 {
			b.Parts = append(b.Parts, strings.Repeat("y", 32))
		}
		other, _ := frame.Encode(b, check)
		return other
	}
	other, _ := frame.Short(api.Bid + r.Intn(7))
	return other
}

// P10 to P12 whole: lost, torn and wrong transmissions, busy stations, and what
// no fault could make one hear.
func TestDrawnLinesWithWrongTransmissions(t *testing.T) {
	r := rand.New(rand.NewSource(10))
	seen := map[string]int{}
	for round := range 1500 {
		p := newPair(t, drawnConfig(r))
		if round%2 == 0 {
			p = newPair(t, small)
		}
		p.d.seen = seen
		often := 1 + r.Intn(30)
		for range 300 {
			if r.Intn(12) == 0 {
				p.submit(r.Intn(2), drawnMessage(r))
			}
			if r.Intn(often) == 0 {
				st := r.Intn(2)
				p.setOnLine(st, drawnTransmission(r, p.x.OnLine(st), p.d.conf.Check))
			}
			if r.Intn(2*often) == 0 {
				p.busy(r.Intn(2), r.Intn(3) == 0)
			}
			p.tick()
		}
	}
	wantSeen(t, seen)
}

// drawnNumber is near what is named, far from it, or just beside great numbers.
func drawnNumber(r *rand.Rand, least, most int) int {
	switch r.Intn(12) {
	case 0:
		return least - 1
	case 1:
		return most + 1
	case 2:
		return least
	case 3:
		return most
	case 4:
		return noStations[r.Intn(len(noStations))]
	case 5:
		return int(r.Uint64())
	}
	return least + r.Intn(most-least+1)
}

// Faults and busy stations alone, by the calls that the program has for them.
func TestDrawnLinesWithFaults(t *testing.T) {
	r := rand.New(rand.NewSource(15))
	answers := map[[2]int]int{}
	for round := range 1500 {
		p := newPair(t, drawnConfig(r))
		if round%2 == 0 {
			p = newPair(t, small)
		}
		often := 1 + r.Intn(30)
		for range 300 {
			if r.Intn(12) == 0 {
				p.submit(r.Intn(2), drawnMessage(r))
			}
			for r.Intn(often+1) == 0 {
				long := len(p.x.OnLine(0)) + len(p.x.OnLine(1))
				kind := drawnNumber(r, 0, 3)
				e := p.fault(kind, drawnNumber(r, 0, long), drawnNumber(r, 0, 255))
				answers[[2]int{kind, int(e)}]++
			}
			if r.Intn(2*often) == 0 {
				p.busy(drawnNumber(r, 0, 1), r.Intn(3) == 0)
			}
			p.tick()
		}
	}
	for _, want := range [][2]int{{0, 0}, {1, 0}, {2, 0}, {3, 0}, {0, 9}, {1, 9}, {2, 9}, {3, 9}, {1, 10}, {2, 10}, {3, 10}, {-1, 9}, {-1, 10}, {4, 9}, {4, 10}} {
		if answers[want] == 0 {
			t.Errorf("a fault of kind %d was never answered %d", want[0], want[1])
		}
	}
}

// wantSeen tells which of the rules of P10 to P12 were never followed.
func wantSeen(t *testing.T, seen map[string]int) {
	t.Helper()
	for st := range 2 {
		for _, rule := range []string{
			"mode 0 hears 3, then 0, 0 events", "mode 0 hears 3, then 3, 0 events", "mode 0 bids, then 1, 0 events",
			"mode 1 hears 7, then 2, 0 events", "mode 1 hears 9, then 1, 0 events", "mode 1 hears 9, then 0, 1 events",
			"mode 1 wait is over, then 1, 0 events", "mode 1 wait is over, then 0, 1 events",
			"mode 2 hears 7, then 2, 0 events", "mode 2 hears 8, then 2, 0 events", "mode 2 hears 7, then 0, 1 events", "mode 2 hears 8, then 0, 1 events",
			"mode 2 hears 6, then 2, 0 events", "mode 2 hears 6, then 0, 1 events", "mode 2 hears 9, then 2, 0 events", "mode 2 hears 9, then 0, 1 events",
			"mode 2 wait is over, then 2, 0 events", "mode 2 wait is over, then 0, 1 events",
			"mode 3 hears 2, then 3, 0 events", "mode 3 hears 2, then 3, 1 events", "mode 3 hears 1, then 3, 0 events", "mode 3 hears 4, then 3, 0 events",
			"mode 3 hears 3, then 3, 0 events", "mode 3 hears 3, then 0, 0 events", "mode 3 hears 5, then 0, 0 events", "mode 3 wait is over, then 0, 0 events",
		} {
			rule = fmt.Sprint(st, ": ", rule)
			if seen[rule] == 0 {
				t.Errorf("never followed: %s", rule)
			}
		}
		for mode, kinds := range [][]int{{0, 1, 2, 4, 5, 6, 7, 8, 9}, {0, 1, 2, 4, 5, 6, 8}, {0, 1, 2, 3, 4, 5}, {0, 6, 7, 8, 9}} {
			for _, kind := range kinds {
				rule := fmt.Sprintf("%d: mode %d does nothing at %d, then %d, 0 events", st, mode, kind, mode)
				if seen[rule] == 0 {
					t.Errorf("never followed: %s", rule)
				}
			}
		}
	}
	for _, rule := range []string{"0: mode 1 does nothing at 3, then 1, 0 events", "1: mode 1 hears 3, then 0, 0 events", "1: mode 1 hears 3, then 3, 0 events"} {
		if seen[rule] == 0 {
			t.Errorf("never followed: %s", rule)
		}
	}
}
