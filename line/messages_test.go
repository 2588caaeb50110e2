package line_test

import (
	"strings"
	"testing"

	"duplex/api"
)

// turnOf plays one turn and compares all that is on the line with what P11 says
// of this message.
func turnOf(t *testing.T, conf api.Config, st int, m api.Message) {
	t.Helper()
	x := open(t, conf)
	submit(t, x, st, m, 1)
	x.Tick()
	x.Tick()
	blocks := blocksByDocument(m, conf)
	answers := []string{raw(t, yes1), raw(t, yes0)}
	for i, want := range blocks {
		events := x.Tick()
		if got := x.OnLine(st); got != want || len(events) != 0 {
			t.Fatalf("P11: %+v, %+v: block %d is % x, want % x; events %+v", conf, m, i, got, want, events)
		}
		var expected []api.Event
		if i == len(blocks)-1 {
			expected = append(expected, delivered(1-st, m))
		}
		wantEvents(t, 2*i+4, x.Tick(), expected)
		if got := x.OnLine(1 - st); got != answers[i%2] {
			t.Fatalf("P12: %+v, %+v: the answer to block %d is % x", conf, m, i, got)
		}
	}
	wantEvents(t, 2*len(blocks)+3, x.Tick(), []api.Event{sent(st, 1)})
	if x.OnLine(st) != raw(t, end) || x.OnLine(1-st) != "" {
		t.Fatalf("P11: behind the last yes % x is on the line", x.OnLine(st))
	}
	x.Tick()
	wantQueues(t, x, 0, 0)
}

func TestMessagesOfEveryCut(t *testing.T) {
	plain := strings.Repeat("0123456789", 20)
	coded := strings.Repeat("\x10\x03\x16\x16\x02\xff\x00\x1fA\x10", 20)
	for size := 1; size <= 32; size++ {
		for parts := 1; parts <= 4; parts++ {
			conf := small
			conf.Size, conf.Parts, conf.Check = size, parts, (size+parts)%2
			full := size * parts
			for i, n := range []int{0, 1, size - 1, size, size + 1, full - 1, full, full + 1, full + size, 2 * full, 2*full + 1, 199, 200} {
				n = min(n, 200)
				head := "12345678"[:(i+size)%9]
				turnOf(t, conf, i%2, api.Message{Text: plain[:n]})
				turnOf(t, conf, 1-i%2, api.Message{Head: head, Text: plain[:n]})
				turnOf(t, conf, 1-i%2, api.Message{Text: coded[:n], Clear: true})
				turnOf(t, conf, i%2, api.Message{Head: head, Text: coded[:n], Clear: true})
			}
		}
	}
}

func TestMessagesOfEveryLength(t *testing.T) {
	conf := small
	conf.Size, conf.Parts = 7, 3
	for n := 0; n <= 200; n++ {
		turnOf(t, conf, n%2, api.Message{Text: strings.Repeat("abcdefghij", 20)[:n]})
		turnOf(t, conf, n%2, api.Message{Head: "h", Text: strings.Repeat("\x10", n), Clear: true})
	}
}

// A few turns as they are on the line, written out.
func TestMessagesWrittenOut(t *testing.T) {
	for _, c := range []struct {
		size, parts int
		m           api.Message
		blocks      []string
	}{
		{2, 1, api.Message{}, []string{"16 16 02 03 01 ff"}},
		{2, 1, api.Message{Clear: true}, []string{"16 16 10 02 10 03 01 ff"}},
		{2, 1, api.Message{Head: "H"}, []string{"16 16 01 48 02 03 48 ff"}},
		{2, 1, api.Message{Text: "AB"}, []string{"16 16 02 41 42 03 02 ff"}},
		{2, 1, api.Message{Text: "ABC"}, []string{blockAB, blockC}},
		{2, 1, api.Message{Head: "H", Text: "ABC"}, []string{"16 16 01 48 02 41 42 17 5f ff", blockC}},
		{1, 2, api.Message{Text: "AB"}, []string{"16 16 02 41 1f 5c 42 03 41 ff"}},
		{1, 2, api.Message{Text: "ABC"}, []string{"16 16 02 41 1f 5c 42 17 55 ff", blockC}},
		{2, 2, api.Message{Text: "ABC"}, []string{"16 16 02 41 42 1f 1e 43 03 40 ff"}},
		{2, 4, api.Message{Text: "ABC"}, []string{"16 16 02 41 42 1f 1e 43 03 40 ff"}},
		{1, 1, api.Message{Text: "\x10\x03", Clear: true}, []string{"16 16 10 02 10 10 10 17 15 ff", "16 16 10 02 03 10 03 02 ff"}},
	} {
		conf := small
		conf.Size, conf.Parts = c.size, c.parts
		for st := range 2 {
			x := open(t, conf)
			submit(t, x, st, c.m, 1)
			x.Tick()
			x.Tick()
			for i, want := range c.blocks {
				x.Tick()
				if got := x.OnLine(st); got != raw(t, want) {
					t.Errorf("P11: Size %d, Parts %d, %+v: block %d is % x, want %s", c.size, c.parts, c.m, i, got, want)
				}
				x.Tick()
			}
			wantEvents(t, 0, x.Tick(), []api.Event{sent(st, 1)})
		}
	}
}

// Both stations have full queues: they take turns, and all comes over.
func TestBothWithSeveralMessages(t *testing.T) {
	conf := small
	conf.Queue = 8
	x := open(t, conf)
	var order []api.Event
	for n := 1; n <= 8; n++ {
		for st := range 2 {
			submit(t, x, st, api.Message{Head: string(rune('a' + st)), Text: strings.Repeat("x", n)}, n)
		}
	}
	for range 400 {
		order = append(order, x.Tick()...)
	}
	if len(order) != 32 {
		t.Fatalf("P11: %d events, want 32: %+v", len(order), order)
	}
	for n := 1; n <= 8; n++ {
		for st := range 2 {
			m := api.Message{Head: string(rune('a' + st)), Text: strings.Repeat("x", n)}
			at := 4*(n-1) + 2*st
			wantEvents(t, n, order[at:at+2], []api.Event{delivered(1-st, m), sent(st, n)})
		}
	}
	wantQueues(t, x, 0, 0)
}
