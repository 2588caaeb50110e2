package line_test

import (
	"encoding/hex"
	"math"
	"strings"
	"testing"

	"duplex/api"
	"duplex/line"
)

const (
	bid     = "16 16 04 05 ff"
	ask     = "16 16 05 ff"
	end     = "16 16 04 ff"
	no      = "16 16 15 ff"
	yes0    = "16 16 10 30 ff"
	yes1    = "16 16 10 31 ff"
	later   = "16 16 10 3b ff"
	blockAB = "16 16 02 41 42 17 16 ff"
	blockC  = "16 16 02 43 03 42 ff"
)

// small is the line of the document's examples.
var small = api.Config{Check: api.Xor, Size: 2, Parts: 1, Queue: 2, First: 3, Second: 4, Reply: 3, Lost: 11, Tries: 1, Waits: 1}

var noStations = []int{-1, 2, 3, 256, 257, 1 << 32, 1<<32 + 1, math.MaxInt, math.MinInt, math.MinInt + 1}

const controls = "\x01\x02\x03\x04\x05\x10\x15\x16\x17\x1f"

func raw(t *testing.T, s string) string {
	t.Helper()
	b, err := hex.DecodeString(strings.ReplaceAll(s, " ", ""))
	if err != nil {
		t.Fatal(err)
	}
	return string(b)
}

func open(t *testing.T, c api.Config) *line.Line {
	t.Helper()
	x, e := line.New(c)
	if x == nil || e != api.OK {
		t.Fatalf("P7: New(%+v): %d", c, e)
	}
	return x
}

func submit(t *testing.T, x *line.Line, st int, m api.Message, want int) {
	t.Helper()
	n, e := x.Submit(st, m)
	if n != want || e != api.OK {
		t.Fatalf("P8: Submit(%d, %+v) = %d, %d, want %d", st, m, n, e, want)
	}
}

func refuse(t *testing.T, x *line.Line, st int, m api.Message, want api.Errno) {
	t.Helper()
	n, e := x.Submit(st, m)
	if n != 0 || e != want {
		t.Errorf("P8, P1: Submit(%d, %+v) = %d, %d, want 0 and the error %d", st, m, n, e, want)
	}
}

// step lets a tick go by and tells what is wrong with what is there behind it:
// what is on the line, the modes, the lengths of the queues, the events.
func step(t *testing.T, x *line.Line, at int, onLine [2]string, modes, queues [2]int, events ...api.Event) {
	t.Helper()
	wantEvents(t, at, x.Tick(), events)
	for range 2 { // looking changes nothing
		for st := range 2 {
			if got := x.OnLine(st); got != raw(t, onLine[st]) {
				t.Fatalf("behind tick %d station %d has % x on the line, want %s", at, st, got, onLine[st])
			}
			if got := x.Look(st); got != (api.View{Mode: modes[st], Queue: queues[st]}) {
				t.Fatalf("P13: behind tick %d Look(%d) is %+v, want mode %d, queue %d", at, st, got, modes[st], queues[st])
			}
		}
	}
}

// tick is step for tests that tell nothing of modes and queues.
func tick(t *testing.T, x *line.Line, at int, s0, s1 string, events ...api.Event) {
	t.Helper()
	wantEvents(t, at, x.Tick(), events)
	if x.OnLine(0) != raw(t, s0) || x.OnLine(1) != raw(t, s1) {
		t.Fatalf("behind tick %d: % x and % x are on the line, want %q and %q", at, x.OnLine(0), x.OnLine(1), s0, s1)
	}
}

func wantEvents(t *testing.T, at int, got, want []api.Event) {
	t.Helper()
	if len(got) != len(want) {
		t.Fatalf("P9: tick %d: events %+v, want %+v", at, got, want)
	}
	for i := range got {
		if got[i] != want[i] {
			t.Fatalf("P9: tick %d: events %+v, want %+v", at, got, want)
		}
	}
}

func wantMode(t *testing.T, x *line.Line, st, want int) {
	t.Helper()
	if got := x.Look(st).Mode; got != want {
		t.Fatalf("P13: station %d has mode %d, want %d", st, got, want)
	}
}

// makeBusy makes a station busy, or no longer, and tells if anything else that
// can be seen is changed by that.
func makeBusy(t *testing.T, x *line.Line, st int, on bool) {
	t.Helper()
	want := [2]api.View{x.Look(0), x.Look(1)}
	want[st].Busy = on
	onLine := [2]string{x.OnLine(0), x.OnLine(1)}
	if e := x.Busy(st, on); e != api.OK {
		t.Fatalf("P14: Busy(%d, %v) = %d", st, on, e)
	}
	if got := [2]api.View{x.Look(0), x.Look(1)}; got != want {
		t.Fatalf("P14: behind Busy(%d, %v) the stations are %+v, want %+v", st, on, got, want)
	}
	if got := [2]string{x.OnLine(0), x.OnLine(1)}; got != onLine {
		t.Fatalf("P14: behind Busy(%d, %v) % x is on the line, want % x", st, on, got, onLine)
	}
}

// fault tells if a fault is not answered as wanted, or if a refused one changes
// what can be seen.
func fault(t *testing.T, x *line.Line, kind, place, value int, want api.Errno) {
	t.Helper()
	views := [2]api.View{x.Look(0), x.Look(1)}
	onLine := [2]string{x.OnLine(0), x.OnLine(1)}
	if e := x.Fault(kind, place, value); e != want {
		t.Fatalf("P15: Fault(%d, %d, %d) at % x = %d, want %d", kind, place, value, onLine, e, want)
	}
	if got := [2]api.View{x.Look(0), x.Look(1)}; got != views {
		t.Fatalf("P15: behind Fault(%d, %d, %d) the stations are %+v, want %+v", kind, place, value, got, views)
	}
	if got := [2]string{x.OnLine(0), x.OnLine(1)}; want != api.OK && got != onLine {
		t.Fatalf("P1: Fault(%d, %d, %d) is refused, and % x has become % x", kind, place, value, onLine, got)
	}
}

func lose(t *testing.T, x *line.Line) {
	t.Helper()
	fault(t, x, api.Lose, 0, 0, api.OK)
}

// becomes makes what is on the line into other bytes, by noise and a cut.
func becomes(t *testing.T, x *line.Line, s string) {
	t.Helper()
	for i := range len(s) {
		fault(t, x, api.Noise, i, int(s[i]), api.OK)
	}
	fault(t, x, api.Cut, len(s), 0, api.OK)
}

func delivered(st int, m api.Message) api.Event {
	return api.Event{Kind: api.Delivered, Station: st, Message: m}
}

func text(s string) api.Message { return api.Message{Text: s} }

func sent(st, n int) api.Event { return api.Event{Kind: api.Sent, Station: st, Number: n} }

func failed(st, n int) api.Event { return api.Event{Kind: api.Failed, Station: st, Number: n} }
