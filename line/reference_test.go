package line_test

import (
	"encoding/hex"
	"fmt"
	"slices"
	"strings"

	"duplex/api"
	"duplex/frame"
)

// docLine is a line that follows the words of P8 to P15 one by one: it keeps
// the ticks in which things fall due, and all blocks of a message beforehand,
// where the program counts down and cuts each block when it is put.
type docLine struct {
	conf api.Config
	now  int
	s    [2]docStation
	seen map[string]int // how often each rule was followed
}

type docStation struct {
	id       int
	mode     int
	busy     bool
	queue    []docMessage
	joined   int
	onLine   string
	overIn   int // the tick in which the wait is over
	bidsFrom int // the first tick in which it does not rest
	tries    int
	offs     int
	free     bool
	blocks   []string // from the one that is being sent on
	expects  int
	head     string
	text     string
	lastYes  int
}

type docMessage struct {
	number int
	api.Message
}

func newDocLine(conf api.Config) *docLine {
	d := &docLine{conf: conf, seen: map[string]int{}}
	d.s[1].id = 1
	return d
}

func (d *docLine) submit(st int, m api.Message) (int, api.Errno) {
	switch {
	case st != 0 && st != 1:
		return 0, api.ErrStation
	case len(m.Head) > 8 || strings.ContainsAny(m.Head, controls):
		return 0, api.ErrHead
	case len(m.Text) > 200 || !m.Clear && strings.ContainsAny(m.Text, controls):
		return 0, api.ErrText
	case len(d.s[st].queue) == d.conf.Queue:
		return 0, api.ErrFull
	}
	s := &d.s[st]
	s.joined++
	s.queue = append(s.queue, docMessage{s.joined, m})
	return s.joined, api.OK
}

func (d *docLine) busy(st int, on bool) api.Errno {
	if st != 0 && st != 1 {
		return api.ErrStation
	}
	d.s[st].busy = on
	return api.OK
}

func (d *docLine) fault(kind, place, value int) api.Errno {
	if (d.s[0].onLine == "") == (d.s[1].onLine == "") {
		return api.ErrLine
	}
	s := &d.s[0]
	if s.onLine == "" {
		s = &d.s[1]
	}
	left, ok := faultByDocument(s.onLine, kind, place, value)
	if !ok {
		return api.ErrFault
	}
	s.onLine = left
	return api.OK
}

// faultByDocument has the numbers of the document, not the constants.
func faultByDocument(s string, kind, place, value int) (string, bool) {
	bytes := []byte(s)
	n := len(bytes)
	switch {
	case kind == 0:
		return "", true
	case kind == 1 && place >= 0 && place <= n:
		return string(bytes[:place]), true
	case kind == 2 && place >= 0 && place < n && value >= 1 && value <= 255:
		bytes[place] ^= byte(value)
		return string(bytes), true
	case kind == 3 && place >= 0 && place <= n && value >= 0 && value <= 255 && n < 320:
		return string(slices.Insert(bytes, place, byte(value))), true
	}
	return "", false
}

func (d *docLine) tick() []api.Event {
	d.now++
	var heard [2]api.Heard
	if (d.s[0].onLine == "") != (d.s[1].onLine == "") {
		for st := range 2 {
			if d.s[st].onLine == "" {
				heard[st], _ = frame.Read(d.s[1-st].onLine, d.conf.Check)
			}
		}
	}
	d.s[0].onLine = ""
	d.s[1].onLine = ""
	var events []api.Event
	for st := range 2 {
		s := &d.s[st]
		events = append(events, d.do(s, heard[st])...)
	}
	return events
}

func (d *docLine) do(s *docStation, h api.Heard) []api.Event {
	mode := s.mode
	named, events := d.hears(s, h)
	if named {
		d.note(mode, fmt.Sprint("hears ", h.Kind), s, events)
		return events
	}
	if mode != api.Idle && s.overIn == d.now {
		events = d.waitIsOver(s)
		d.note(mode, "wait is over", s, events)
		return events
	}
	if mode == api.Idle && len(s.queue) > 0 && d.now >= s.bidsFrom {
		s.mode = api.Bidding
		s.tries, s.offs, s.free = 1, 0, false
		put(s, bid)
		d.bidWait(s)
		d.note(mode, "bids", s, nil)
		return nil
	}
	d.note(mode, fmt.Sprint("does nothing at ", h.Kind), s, nil)
	return nil
}

func (d *docLine) note(mode int, what string, s *docStation, events []api.Event) {
	d.seen[fmt.Sprintf("%d: mode %d %s, then %d, %d events", s.id, mode, what, s.mode, len(events))]++
}

func (d *docLine) hears(s *docStation, h api.Heard) (bool, []api.Event) {
	switch [2]int{s.mode, h.Kind} {
	case [2]int{api.Idle, api.Bid}, [2]int{api.Receiving, api.Bid}:
		d.answers(s)
		return true, nil
	case [2]int{api.Bidding, api.Bid}:
		if s.id == 1 {
			d.answers(s)
		}
		return s.id == 1, nil
	case [2]int{api.Bidding, api.Yes0}:
		s.blocks = blocksByDocument(s.queue[0].Message, d.conf)
		s.mode = api.Sending
		s.expects = api.Yes1
		d.newBlock(s)
		return true, nil
	case [2]int{api.Bidding, api.Later}:
		s.offs++
		if s.offs > d.conf.Waits {
			return true, d.fails(s)
		}
		d.bidWait(s)
		s.free = true
		return true, nil
	}
	if s.mode == api.Sending {
		return d.hearsSending(s, h.Kind)
	}
	if s.mode == api.Receiving {
		return d.hearsReceiving(s, h)
	}
	return false, nil
}

func (d *docLine) hearsSending(s *docStation, kind int) (bool, []api.Event) {
	switch {
	case kind == s.expects && len(s.blocks) == 1:
		n := s.queue[0].number
		s.queue = s.queue[1:]
		put(s, end)
		d.turnEnds(s)
		return true, []api.Event{{Kind: 2, Station: s.id, Number: n}}
	case kind == s.expects:
		s.blocks = s.blocks[1:]
		if s.expects == api.Yes1 {
			s.expects = api.Yes0
		} else {
			s.expects = api.Yes1
		}
		d.newBlock(s)
		return true, nil
	case kind == api.Yes0, kind == api.Yes1, kind == api.No:
		if s.tries > d.conf.Tries {
			return true, d.fails(s)
		}
		s.onLine = s.blocks[0]
		s.tries++
		s.free = false
		s.overIn = d.now + d.conf.Reply
		return true, nil
	case kind == api.Later:
		s.offs++
		if s.offs > d.conf.Waits {
			return true, d.fails(s)
		}
		s.overIn = d.now + d.conf.Reply
		s.free = true
		return true, nil
	}
	return false, nil
}

func (d *docLine) hearsReceiving(s *docStation, h api.Heard) (bool, []api.Event) {
	switch h.Kind {
	case api.Data:
		s.overIn = d.now + d.conf.Lost
		return true, d.takes(s, h.Block)
	case api.Torn:
		put(s, no)
		s.overIn = d.now + d.conf.Lost
		return true, nil
	case api.Ask:
		putYesOrLater(s)
		s.overIn = d.now + d.conf.Lost
		return true, nil
	case api.End:
		s.head, s.text = "", ""
		s.mode = api.Idle
		return true, nil
	}
	return false, nil
}

func (d *docLine) takes(s *docStation, b api.Block) []api.Event {
	more := strings.Join(b.Parts, "")
	if len(s.head)+len(b.Head) > 8 || len(s.text)+len(more) > 200 {
		put(s, no)
		return nil
	}
	s.head += b.Head
	s.text += more
	s.lastYes = api.Yes0 + api.Yes1 - s.lastYes
	putYesOrLater(s)
	if !b.Last {
		return nil
	}
	m := api.Message{Head: s.head, Text: s.text, Clear: b.Clear}
	s.head, s.text = "", ""
	return []api.Event{{Kind: 1, Station: s.id, Message: m}}
}

func (d *docLine) waitIsOver(s *docStation) []api.Event {
	if s.mode == api.Receiving {
		s.head, s.text = "", ""
		s.mode = api.Idle
		return nil
	}
	if !s.free && s.tries > d.conf.Tries {
		return d.fails(s)
	}
	if s.free {
		s.free = false
	} else {
		s.tries++
	}
	if s.mode == api.Bidding {
		put(s, bid)
		d.bidWait(s)
	} else {
		put(s, ask)
		s.overIn = d.now + d.conf.Reply
	}
	return nil
}

func (d *docLine) answers(s *docStation) {
	s.head, s.text = "", ""
	if s.busy {
		put(s, later)
		s.mode = api.Idle
		return
	}
	put(s, yes0)
	s.mode = api.Receiving
	s.lastYes = api.Yes0
	s.overIn = d.now + d.conf.Lost
}

func (d *docLine) newBlock(s *docStation) {
	s.onLine = s.blocks[0]
	s.tries, s.offs, s.free = 1, 0, false
	s.overIn = d.now + d.conf.Reply
}

func (d *docLine) fails(s *docStation) []api.Event {
	n := s.queue[0].number
	s.queue = s.queue[1:]
	if s.mode == api.Sending {
		put(s, end)
	}
	d.turnEnds(s)
	return []api.Event{{Kind: 3, Station: s.id, Number: n}}
}

func (d *docLine) turnEnds(s *docStation) {
	s.mode = api.Idle
	s.bidsFrom = d.now + 3
}

func (d *docLine) bidWait(s *docStation) {
	if s.id == 0 {
		s.overIn = d.now + d.conf.First
	} else {
		s.overIn = d.now + d.conf.Second
	}
}

func put(s *docStation, transmission string) {
	b, _ := hex.DecodeString(strings.ReplaceAll(transmission, " ", ""))
	s.onLine = string(b)
}

func putYesOrLater(s *docStation) {
	switch {
	case s.busy:
		put(s, later)
	case s.lastYes == api.Yes0:
		put(s, yes0)
	default:
		put(s, yes1)
	}
}

// blocksByDocument cuts the whole text into parts first, and then lays the
// parts together, as P11 says it.
func blocksByDocument(m api.Message, conf api.Config) []string {
	var parts []string
	left := m.Text
	for len(left) > conf.Size {
		parts = append(parts, left[:conf.Size])
		left = left[conf.Size:]
	}
	if left != "" || parts == nil {
		parts = append(parts, left)
	}
	var out []string
	head := m.Head
	for len(parts) > 0 {
		n := min(conf.Parts, len(parts))
		b := api.Block{Head: head, Parts: parts[:n], Clear: m.Clear, Last: n == len(parts)}
		s, e := frame.Encode(b, conf.Check)
		if e != api.OK {
			s = fmt.Sprint("no block: ", b)
		}
		out = append(out, s)
		parts = parts[n:]
		head = ""
	}
	return out
}
