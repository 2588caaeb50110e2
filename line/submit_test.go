package line_test

import (
	"strings"
	"testing"

	"duplex/api"
	"duplex/line"
)

func wantQueues(t *testing.T, x *line.Line, a, b int) {
	t.Helper()
	if x.Look(0) != (api.View{Queue: a}) || x.Look(1) != (api.View{Queue: b}) {
		t.Fatalf("P8, P13: %+v and %+v, want %d and %d in the queues", x.Look(0), x.Look(1), a, b)
	}
}

func TestSubmitEveryByte(t *testing.T) {
	for i := 0; i < 256; i++ {
		one := string([]byte{byte(i)})
		control := strings.Contains(controls, one)
		for _, s := range []string{one, one + "abcdefg", "abcdefg" + one, "abc" + one + "d"} {
			for _, m := range []api.Message{{Head: s}, {Head: s, Text: "t"}, {Head: s, Clear: true}} {
				x := open(t, small)
				if control {
					refuse(t, x, 0, m, api.ErrHead)
					wantQueues(t, x, 0, 0)
				} else {
					submit(t, x, 0, m, 1)
					wantQueues(t, x, 1, 0)
				}
			}
			x := open(t, small)
			long := strings.Repeat("x", 192) + s
			if control {
				refuse(t, x, 1, api.Message{Text: s}, api.ErrText)
				refuse(t, x, 1, api.Message{Head: "h", Text: long}, api.ErrText)
				wantQueues(t, x, 0, 0)
			} else {
				submit(t, x, 1, api.Message{Text: s}, 1)
				submit(t, x, 1, api.Message{Head: "h", Text: long}, 2)
				wantQueues(t, x, 0, 2)
			}
			x = open(t, small)
			submit(t, x, 1, api.Message{Text: s, Clear: true}, 1)
			submit(t, x, 1, api.Message{Head: "h", Text: long, Clear: true}, 2)
		}
	}
}

func TestSubmitLengths(t *testing.T) {
	for n := 0; n <= 600; n++ {
		for _, anyByte := range []bool{false, true} {
			x := open(t, small)
			head := api.Message{Head: strings.Repeat("h", n), Clear: anyByte}
			body := api.Message{Text: strings.Repeat("t", n), Clear: anyByte}
			if n > 8 {
				refuse(t, x, 0, head, api.ErrHead)
			} else {
				submit(t, x, 0, head, 1)
			}
			if n > 200 {
				refuse(t, x, 1, body, api.ErrText)
			} else {
				submit(t, x, 1, body, 1)
			}
		}
	}
	x := open(t, small)
	submit(t, x, 0, api.Message{Text: strings.Repeat("\x10", 200), Clear: true}, 1)
	refuse(t, x, 0, api.Message{Text: strings.Repeat("\x10", 201), Clear: true}, api.ErrText)
	refuse(t, x, 0, api.Message{Text: strings.Repeat("a", 1<<20)}, api.ErrText)
	refuse(t, x, 0, api.Message{Head: strings.Repeat("a", 1<<20)}, api.ErrHead)
}

func TestSubmitToNoStation(t *testing.T) {
	x := open(t, small)
	for _, st := range noStations {
		refuse(t, x, st, api.Message{}, api.ErrStation)
		refuse(t, x, st, text("A"), api.ErrStation)
	}
	wantQueues(t, x, 0, 0)
}

// Each error is named ahead of all that stand behind it in P8.
func TestSubmitNamesTheFirstError(t *testing.T) {
	badHeads := []string{"123456789", "\x01", "1234567\x1f", "12345678\x10"}
	badTexts := []api.Message{{Text: "\x05"}, {Text: strings.Repeat("a", 201)}, {Text: strings.Repeat("\x10", 201), Clear: true}, {Text: strings.Repeat("a", 200) + "\x16"}}
	for _, full := range []bool{false, true} {
		x := open(t, small)
		in := 0
		if full {
			in = 2
			for st := range 2 {
				submit(t, x, st, text("a"), 1)
				submit(t, x, st, text("b"), 2)
				refuse(t, x, st, text("c"), api.ErrFull)
				refuse(t, x, st, api.Message{}, api.ErrFull)
				refuse(t, x, st, api.Message{Head: "12345678", Text: strings.Repeat("\x10", 200), Clear: true}, api.ErrFull)
			}
		}
		for _, m := range badTexts {
			for st := range 2 {
				refuse(t, x, st, m, api.ErrText)
			}
			for _, head := range badHeads {
				m.Head = head
				for st := range 2 {
					refuse(t, x, st, m, api.ErrHead)
					refuse(t, x, st, api.Message{Head: head}, api.ErrHead)
					refuse(t, x, st, api.Message{Head: head, Clear: true}, api.ErrHead)
				}
				for _, st := range noStations {
					refuse(t, x, st, m, api.ErrStation)
				}
			}
		}
		wantQueues(t, x, in, in)
	}
}

func TestSubmitUpToAFullQueue(t *testing.T) {
	for room := 1; room <= 8; room++ {
		conf := small
		conf.Queue = room
		x := open(t, conf)
		for st := 1; st >= 0; st-- {
			for n := 1; n <= room; n++ {
				submit(t, x, st, text("a"), n)
				if got := x.Look(st).Queue; got != n {
					t.Errorf("P8: %d in the queue, want %d", got, n)
				}
			}
			for range 3 {
				refuse(t, x, st, text("a"), api.ErrFull)
			}
		}
		wantQueues(t, x, room, room)
	}
}

// The message that is being sent is in the queue up to the tick in which it is
// Sent; refused messages take no number, and each station counts its own.
func TestSubmitWhileSending(t *testing.T) {
	conf := small
	conf.Queue = 1
	x := open(t, conf)
	for n := 1; n <= 20; n++ {
		submit(t, x, 0, text("A"), n)
		done := false
		for at := 0; !done; at++ {
			refuse(t, x, 0, text("B"), api.ErrFull)
			refuse(t, x, 0, text("\x10"), api.ErrText)
			if at > 12 {
				t.Fatalf("P11: message %d is not sent in 12 ticks", n)
			}
			for _, e := range x.Tick() {
				if e.Kind == api.Sent {
					done = true
					wantEvents(t, at, []api.Event{e}, []api.Event{sent(0, n)})
				}
			}
		}
	}
	submit(t, x, 1, text("B"), 1)
	submit(t, x, 0, text("B"), 21)
}
