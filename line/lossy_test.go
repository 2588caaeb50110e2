package line_test

import (
	"math/rand"
	"slices"
	"strings"
	"testing"

	"duplex/api"
	"duplex/frame"
	"duplex/line"
)

// happened is an event and the tick in which it was.
type happened struct {
	at int
	e  api.Event
}

func wantHappened(t *testing.T, what string, got []happened, want ...happened) {
	t.Helper()
	if !slices.Equal(got, want) {
		t.Fatalf("%s: %+v, want %+v", what, got, want)
	}
}

// spoiler does a fault to the first of the transmissions of some kinds.
type spoiler struct {
	kinds  []int // as they are heard
	times  int
	behind int // those in the first ticks are left alone
	fault  [3]int
}

// spoilt plays a line on which a station has one message, up to its end and
// beyond, and answers what happened.
func spoilt(t *testing.T, conf api.Config, st int, m api.Message, spoilers ...spoiler) []happened {
	t.Helper()
	p := newPair(t, conf)
	p.submit(st, m)
	var out []happened
	for at := 1; at <= 600; at++ {
		for _, e := range p.tick() {
			out = append(out, happened{at, e})
		}
		h, _ := frame.Read(p.x.OnLine(0)+p.x.OnLine(1), conf.Check)
		for i := range spoilers {
			f := &spoilers[i]
			if f.times == 0 || at <= f.behind || !slices.Contains(f.kinds, h.Kind) {
				continue
			}
			f.times--
			if e := p.fault(f.fault[0], f.fault[1], f.fault[2]); e != api.OK {
				p.wrong("P15: Fault(%v) = %d", f.fault, e)
			}
			break
		}
	}
	for _, f := range spoilers {
		if f.times > 0 {
			p.wrong("%d of the faults were not done", f.times)
		}
	}
	wantQueues(t, p.x, 0, 0)
	return out
}

// withTries is uneven with other Tries: the waits behind a bid are 5 and 7, that
// for an answer is 4.
func withTries(tries int) api.Config {
	conf := uneven
	conf.Tries, conf.Lost = tries, 4*(tries+2)+2
	return conf
}

// A turn with "C" alone has Bid in tick 1, Yes0 in 2, the block in 3, Yes1 and
// Delivered in 4, End and Sent in 5.

func TestBidsLostAtTries(t *testing.T) {
	c := text("C")
	for st, wait := range bidWaits {
		for tries := 1; tries <= 7; tries++ {
			conf := withTries(tries)
			for _, f := range [][3]int{{api.Lose}, {api.Cut, 4}, {api.Cut, 0}, {api.Turn, 2, 1}, {api.Noise, 5, 0}} {
				got := spoilt(t, conf, st, c, spoiler{[]int{api.Bid}, tries, 0, f})
				wantHappened(t, "P10: bids lost", got, happened{4 + tries*wait, delivered(1-st, c)}, happened{5 + tries*wait, sent(st, 1)})
				got = spoilt(t, conf, st, c, spoiler{[]int{api.Bid}, tries + 1, 0, f})
				wantHappened(t, "P10: bids lost", got, happened{1 + (tries+1)*wait, failed(st, 1)})
			}
			for _, f := range [][3]int{{api.Lose}, {api.Cut, 4}, {api.Turn, 0, 1}} {
				got := spoilt(t, conf, st, c, spoiler{[]int{api.Yes0}, tries, 0, f})
				wantHappened(t, "P10: answers to bids lost", got, happened{4 + tries*wait, delivered(1-st, c)}, happened{5 + tries*wait, sent(st, 1)})
				got = spoilt(t, conf, st, c, spoiler{[]int{api.Yes0}, tries + 1, 0, f})
				wantHappened(t, "P10: answers to bids lost", got, happened{1 + (tries+1)*wait, failed(st, 1)})
			}
		}
	}
}

// A lost block takes two tries: one for the Ask, and one for the block that is
// put again when the other yes comes.
func TestBlocksLostAtTries(t *testing.T) {
	c := text("C")
	for st := range 2 {
		for tries := 1; tries <= 7; tries++ {
			conf := withTries(tries)
			most := tries / 2
			got := spoilt(t, conf, st, c, spoiler{[]int{api.Data}, most, 0, [3]int{api.Lose}})
			// The Ask is put 4 ticks behind the block, answered in the next, and the block is put in the one behind that.
			wantHappened(t, "P11: blocks lost", got, happened{4 + most*6, delivered(1-st, c)}, happened{5 + most*6, sent(st, 1)})
			got = spoilt(t, conf, st, c, spoiler{[]int{api.Data}, most + 1, 0, [3]int{api.Lose}})
			last := 3 + most*6 + 4
			if tries%2 == 1 {
				last += 2 // an Ask is left, but not for the block behind it
			}
			wantHappened(t, "P11: blocks lost", got, happened{last, failed(st, 1)})
		}
	}
}

func TestAnswersLostAtTries(t *testing.T) {
	c := text("C")
	for st := range 2 {
		for tries := 1; tries <= 7; tries++ {
			conf := withTries(tries)
			for _, f := range [][3]int{{api.Lose}, {api.Cut, 4}, {api.Cut, 1}, {api.Turn, 1, 0x80}, {api.Noise, 3, 0x30}} {
				// An Ask goes 4 ticks behind what was not answered.
				got := spoilt(t, conf, st, c, spoiler{[]int{api.Yes1}, tries, 0, f})
				wantHappened(t, "P11: answers lost", got, happened{4, delivered(1-st, c)}, happened{5 + tries*4, sent(st, 1)})
				got = spoilt(t, conf, st, c, spoiler{[]int{api.Yes1}, tries + 1, 0, f})
				wantHappened(t, "P11: answers lost", got, happened{4, delivered(1-st, c)}, happened{3 + (tries+1)*4, failed(st, 1)})
			}
			// The answer, and then the Asks for it: the last one may not be lost.
			answer := spoiler{[]int{api.Yes1}, 1, 0, [3]int{api.Lose}}
			got := spoilt(t, conf, st, c, answer, spoiler{[]int{api.Ask}, tries - 1, 0, [3]int{api.Lose}})
			wantHappened(t, "P11: Asks lost", got, happened{4, delivered(1-st, c)}, happened{5 + tries*4, sent(st, 1)})
			got = spoilt(t, conf, st, c, answer, spoiler{[]int{api.Ask}, tries, 0, [3]int{api.Lose}})
			wantHappened(t, "P11: Asks lost", got, happened{4, delivered(1-st, c)}, happened{3 + (tries+1)*4, failed(st, 1)})
		}
	}
}

// A torn block takes one try; each block has its own.
func TestBlocksTornAtTries(t *testing.T) {
	for st := range 2 {
		for tries := 1; tries <= 7; tries++ {
			conf := withTries(tries)
			for _, f := range [][3]int{{api.Turn, 3, 1}, {api.Turn, 4, 0xff}, {api.Cut, 3}, {api.Cut, 6}, {api.Noise, 3, 0x41}, {api.Noise, 6, 0xff}} {
				c := text("C")
				got := spoilt(t, conf, st, c, spoiler{[]int{api.Data}, tries, 0, f})
				wantHappened(t, "P11: blocks torn", got, happened{4 + tries*2, delivered(1-st, c)}, happened{5 + tries*2, sent(st, 1)})
				got = spoilt(t, conf, st, c, spoiler{[]int{api.Data}, tries + 1, 0, f})
				wantHappened(t, "P11: blocks torn", got, happened{3 + (tries+1)*2, failed(st, 1)})
				abc := text("ABC")
				first := spoiler{[]int{api.Data}, tries, 0, f}
				// The second block is put two ticks behind the first that is not torn.
				second := spoiler{[]int{api.Data}, tries, 3 + tries*2, f}
				got = spoilt(t, conf, st, abc, first, second)
				wantHappened(t, "P11: blocks torn", got, happened{6 + tries*4, delivered(1-st, abc)}, happened{7 + tries*4, sent(st, 1)})
				second.times++
				got = spoilt(t, conf, st, abc, first, second)
				wantHappened(t, "P11: blocks torn", got, happened{5 + tries*2 + (tries+1)*2, failed(st, 1)})
			}
		}
	}
}

// No that is lost is asked for: the answer is the other yes, and the block goes
// once more.
func TestNoIsLost(t *testing.T) {
	for st := range 2 {
		conf := withTries(2)
		x := open(t, conf)
		submit(t, x, st, text("ABC"), 1)
		wantTick(t, x, 1, st, bid, "")
		wantTick(t, x, 2, st, "", yes0)
		wantTick(t, x, 3, st, blockAB, "")
		fault(t, x, api.Turn, 3, 1, api.OK)
		wantTick(t, x, 4, st, "", no)
		lose(t, x)
		for at := 5; at <= 6; at++ {
			wantTick(t, x, at, st, "", "")
		}
		wantTick(t, x, 7, st, ask, "")
		wantTick(t, x, 8, st, "", yes0)
		wantTick(t, x, 9, st, blockAB, "")
		wantTick(t, x, 10, st, "", yes1)
		wantTick(t, x, 11, st, blockC, "")
		wantTick(t, x, 12, st, "", yes0, delivered(1-st, text("ABC")))
	}
}

// ledger looks at what is told of messages, each of which has a text of its
// own: they come over whole, in order and once, or fail.
type ledger struct {
	p       *pair
	waiting [2][]api.Message
	number  [2]int
	arrived [2]bool // whether the first that waits has come over
	sent    int
	failed  int
}

func (l *ledger) submit(st int, m api.Message) {
	if len(l.p.d.s[st].queue) < l.p.d.conf.Queue {
		l.waiting[st] = append(l.waiting[st], m)
	}
	l.p.submit(st, m)
}

func (l *ledger) tick() {
	l.p.t.Helper()
	for _, e := range l.p.tick() {
		from := e.Station
		if e.Kind == api.Delivered {
			from = 1 - e.Station
		}
		if len(l.waiting[from]) == 0 {
			l.p.wrong("%+v, and no message is under way", e)
		}
		if e.Kind == api.Delivered {
			if l.arrived[from] || e.Message != l.waiting[from][0] {
				l.p.wrong("P12: %+v, and %+v is under way (come over: %v)", e, l.waiting[from][0], l.arrived[from])
			}
			l.arrived[from] = true
			continue
		}
		l.number[from]++
		if e.Number != l.number[from] || e.Message != (api.Message{}) {
			l.p.wrong("P11: %+v, want the number %d", e, l.number[from])
		}
		if e.Kind == api.Sent {
			l.sent++
			if !l.arrived[from] {
				l.p.wrong("P11: %+v, and it has not come over", e)
			}
		} else {
			l.failed++
		}
		l.waiting[from] = l.waiting[from][1:]
		l.arrived[from] = false
	}
}

// settle lets ticks go by until nothing is under way any more.
func (l *ledger) settle() {
	l.p.t.Helper()
	for range 255 + 2*api.MaxMessage {
		if l.p.x.Look(0).Mode == idle && l.p.x.Look(1).Mode == idle && len(l.waiting[0])+len(l.waiting[1]) == 0 {
			return
		}
		l.tick()
	}
	l.p.wrong("still under way: %+v, %+v, %+v", l.waiting, l.p.x.Look(0), l.p.x.Look(1))
}

// seven is of four blocks: its turn takes the ticks 1 to 11.
var seven = api.Message{Head: "h", Text: "ABCDEFG"}

// faultsOf are all places and some values of each kind, for a transmission.
func faultsOf(s string) [][3]int {
	out := [][3]int{{api.Lose}}
	for place := range len(s) {
		out = append(out, [3]int{api.Cut, place})
		for _, value := range []int{1, 2, 4, 0x14, 0x12, 0x42, 0x56, 0x80, 0xff} {
			out = append(out, [3]int{api.Turn, place, value})
		}
	}
	for place := 0; place <= len(s); place++ {
		for _, value := range []int{0, 2, 3, 5, 0x10, 0x16, 0x17, 0x1f, 0x30, 0x41, 0xff} {
			out = append(out, [3]int{api.Noise, place, value})
		}
	}
	return out
}

// oneFault plays seven and a message behind it, with one fault behind a tick.
func oneFault(t *testing.T, conf api.Config, st, tick int, f [3]int) *ledger {
	t.Helper()
	l := &ledger{p: newPair(t, conf)}
	l.submit(st, seven)
	l.submit(st, text("next"))
	for range tick {
		l.tick()
	}
	if e := l.p.fault(f[0], f[1], f[2]); e != api.OK {
		l.p.wrong("P15: %v: %d", f, e)
	}
	l.settle()
	return l
}

// One transmission of a message lost, cut or torn, whichever it is: with two
// tries the message comes over all the same. Two checks: noise of 00 is not
// seen by the check of kind Xor.
func TestOneFaultAtEveryTick(t *testing.T) {
	for _, check := range []int{api.Xor, api.Cyclic} {
		for tries := 1; tries <= 2; tries++ {
			conf := small
			conf.Check, conf.Tries, conf.Lost = check, tries, 14
			for st := range 2 {
				x := open(t, conf)
				submit(t, x, st, seven, 1)
				for at := 1; at <= 11; at++ {
					x.Tick()
					for _, f := range faultsOf(x.OnLine(0) + x.OnLine(1)) {
						isBlock := at >= 3 && at <= 9 && at%2 == 1
						if f[0] >= api.Turn && (!isBlock || f[0] == api.Noise && f[2] == 0 && check == api.Xor) {
							continue
						}
						l := oneFault(t, conf, st, at, f)
						lost := tries == 1 && isBlock && isSilence(x, f, check)
						if lost && (l.sent != 1 || l.failed != 1) || !lost && (l.sent != 2 || l.failed != 0) {
							l.p.wrong("%v behind tick %d: %d sent, %d failed", f, at, l.sent, l.failed)
						}
					}
				}
			}
		}
	}
}

// isSilence tells whether a fault leaves nothing to be heard, not even that
// something was torn.
func isSilence(x *line.Line, f [3]int, check int) bool {
	left, _ := faultByDocument(x.OnLine(0)+x.OnLine(1), f[0], f[1], f[2])
	h, _ := frame.Read(left, check)
	return h.Kind == api.Silence
}

// Any fault in what asks and answers: all goes as the document's line has it.
func TestOneFaultInAsksAndAnswers(t *testing.T) {
	for st := range 2 {
		x := open(t, small)
		submit(t, x, st, seven, 1)
		for at := 1; at <= 11; at++ {
			x.Tick()
			for _, f := range faultsOf(x.OnLine(0) + x.OnLine(1)) {
				p := newPair(t, small)
				p.submit(st, seven)
				p.submit(st, text("next"))
				for range at {
					p.tick()
				}
				p.fault(f[0], f[1], f[2])
				for range 60 {
					p.tick()
				}
				wantQueues(t, p.x, 0, 0)
			}
		}
	}
}

// Two or three transmissions lost, cut or torn, at all ticks.
func TestSomeFaultsAtEveryTick(t *testing.T) {
	ways := [][3]int{{api.Lose}, {api.Cut, 3}, {api.Turn, 3, 1}}
	told := [3]int{}
	for st := range 2 {
		for tries := 1; tries <= 3; tries++ {
			conf := small
			conf.Check, conf.Tries, conf.Lost = api.Cyclic, tries, 17
			for i := 1; i <= 11; i++ {
				for k := i + 1; k <= 20; k++ {
					for n := k; n <= 26; n += 6 {
						for way := range 27 {
							l := &ledger{p: newPair(t, conf)}
							l.submit(st, seven)
							for at := 1; at <= n; at++ {
								l.tick()
								switch at {
								case n:
									faultBlockOrLose(l, ways[way/9])
								case k:
									faultBlockOrLose(l, ways[way/3%3])
								case i:
									faultBlockOrLose(l, ways[way%3])
								}
							}
							l.settle()
							told[l.sent]++
						}
					}
				}
			}
		}
	}
	if told[0] == 0 || told[1] == 0 {
		t.Errorf("%v messages have failed and are sent", told)
	}
}

// faultBlockOrLose changes a block; of what has no check it leaves nothing.
func faultBlockOrLose(l *ledger, f [3]int) {
	l.p.t.Helper()
	h, _ := frame.Read(l.p.x.OnLine(0)+l.p.x.OnLine(1), l.p.d.conf.Check)
	if h.Kind != api.Data {
		f = [3]int{api.Lose}
	}
	l.p.fault(f[0], f[1], f[2])
}

// As long as nothing but a block is changed, and all else is only lost or cut,
// messages come over whole, in order and once, or fail.
func TestMessagesComeOverOrFail(t *testing.T) {
	r := rand.New(rand.NewSource(12))
	sent, failed := 0, 0
	for range 400 {
		conf := drawnConfig(r)
		conf.Check = api.Cyclic
		l := &ledger{p: newPair(t, conf)}
		often := 2 + r.Intn(25)
		for at := range 500 {
			if r.Intn(15) == 0 {
				m := drawnMessage(r)
				m.Text = string(rune(0x100+at)) + m.Text[:min(len(m.Text), 190)]
				l.submit(r.Intn(2), m)
			}
			if r.Intn(3*often) == 0 {
				l.p.busy(r.Intn(2), r.Intn(3) == 0)
			}
			l.tick()
			if r.Intn(often) == 0 {
				long := len(l.p.x.OnLine(0)) + len(l.p.x.OnLine(1))
				l.p.fault(api.Cut, r.Intn(long+1), 0)
			}
			if r.Intn(often) == 0 {
				long := len(l.p.x.OnLine(0)) + len(l.p.x.OnLine(1))
				faultBlockOrLose(l, [3]int{2 + r.Intn(2), r.Intn(long + 1), 1 + r.Intn(255)})
			}
		}
		sent += l.sent
		failed += l.failed
	}
	if sent < 500 || failed < 500 {
		t.Errorf("%d messages are sent, %d have failed", sent, failed)
	}
}

// exchange lets the next block of a sender become another one, and looks at the
// answer to it.
func exchange(t *testing.T, x *line.Line, at *int, st int, b api.Block, answer string, events ...api.Event) {
	t.Helper()
	*at++
	wantEvents(t, *at, x.Tick(), nil)
	becomes(t, x, raw(t, block(t, b)))
	*at++
	wantTick(t, x, *at, st, "", answer, events...)
}

// What is received up to 8 bytes of heads and 200 of text, and beyond.
func TestReceivingTooMuchByFaults(t *testing.T) {
	long := strings.Repeat("x", 32)
	for st := range 2 {
		conf := small
		conf.Size, conf.Tries, conf.Lost = 1, 7, 255
		x := open(t, conf)
		submit(t, x, st, text(strings.Repeat("s", 200)), 1)
		wantTick(t, x, 1, st, bid, "")
		wantTick(t, x, 2, st, "", yes0)
		at := 2
		exchange(t, x, &at, st, api.Block{Head: "12345", Parts: []string{long, long, long, long}}, yes1)
		exchange(t, x, &at, st, api.Block{Head: "6789", Parts: []string{long, long}}, no)
		exchange(t, x, &at, st, api.Block{Head: "678", Parts: []string{long, long, "123456789"}}, no)
		exchange(t, x, &at, st, api.Block{Head: "6789", Parts: []string{long, long, long, long}, Last: true}, no)
		exchange(t, x, &at, st, api.Block{Head: "678", Parts: []string{long, long}}, yes0)
		exchange(t, x, &at, st, api.Block{Head: "9", Parts: []string{""}}, no)
		exchange(t, x, &at, st, api.Block{Head: "9", Parts: []string{""}, Last: true}, no)
		exchange(t, x, &at, st, api.Block{Parts: []string{"1234", "56789"}}, no)
		exchange(t, x, &at, st, api.Block{Parts: []string{"1234", "5678"}}, yes1)
		exchange(t, x, &at, st, api.Block{Parts: []string{"1"}}, no)
		exchange(t, x, &at, st, api.Block{Parts: []string{"1"}, Last: true}, no)
		// What came too much was not joined.
		all := api.Message{Head: "12345678", Text: strings.Repeat("x", 192) + "12345678", Clear: true}
		exchange(t, x, &at, st, api.Block{Parts: []string{"", ""}, Clear: true, Last: true}, yes0, delivered(1-st, all))
		// Nothing has been received yet of the next one.
		exchange(t, x, &at, st, api.Block{Head: "abcdefgh", Parts: []string{long, long, long, long}}, yes1)
		exchange(t, x, &at, st, api.Block{Parts: []string{long, long, "abcdefgh"}, Last: true}, yes0, delivered(1-st, api.Message{Head: "abcdefgh", Text: strings.Repeat("x", 192) + "abcdefgh"}))
	}
}

// A block that is too much is refused as often as it comes, and the message
// fails at Tries as for torn ones.
func TestTooMuchAtTries(t *testing.T) {
	long := strings.Repeat("x", 32)
	for st := range 2 {
		for tries := 1; tries <= 7; tries++ {
			x := open(t, withTries(tries))
			submit(t, x, st, text("ABC"), 1)
			wantTick(t, x, 1, st, bid, "")
			wantTick(t, x, 2, st, "", yes0)
			at := 2
			full := api.Block{Parts: []string{long, long, long, long}}
			exchange(t, x, &at, st, full, yes1)
			for range tries + 1 {
				exchange(t, x, &at, st, full, no)
			}
			wantTick(t, x, at+1, st, end, "", failed(st, 1))
		}
	}
}
