package line

import (
	"duplex/api"
	"duplex/frame"
)

// noEvent is the kind of the empty event: no kind of events is 0.
const noEvent = 0

type station struct {
	side   int // 0 or 1
	queue  []api.Message
	joined int // messages that ever joined the queue
	busy   bool
	put    string
	mode   int
	wait   int // ticks up to the one in which the wait is over
	rest   int // ticks up to the one in which it may bid again
	own    turn
	got    receipt
}

// act does the one thing that there is to do for a station in a tick. What it
// hears comes ahead of the end of its wait, and that ahead of a bid.
func (s *station) act(h api.Heard, c api.Config) api.Event {
	s.wait = oneLess(s.wait)
	s.rest = oneLess(s.rest)
	switch s.mode {
	case api.Bidding:
		return s.actBidding(h.Kind, c)
	case api.Sending:
		return s.actSending(h.Kind, c)
	case api.Receiving:
		return s.actReceiving(h, c)
	}
	s.actIdle(h.Kind, c)
	return api.Event{}
}

func oneLess(ticks int) int {
	if ticks > 0 {
		return ticks - 1
	}
	return 0
}

func (s *station) putShort(kind int) {
	t, e := frame.Short(kind)
	if e == api.OK {
		s.put = t
	}
}

func (s *station) beginWait(c api.Config) {
	switch s.mode {
	case api.Bidding:
		s.wait = c.First
		if s.side == 1 {
			s.wait = c.Second
		}
	case api.Sending:
		s.wait = c.Reply
	case api.Receiving:
		s.wait = c.Lost
	}
}

// becomeIdle forgets all but the queue and the rest: they outlast a turn.
func (s *station) becomeIdle() {
	s.mode = api.Idle
	s.wait = 0
	s.own = turn{}
	s.got = receipt{}
}

// message answers the empty message where the queue is empty.
func (s *station) message() api.Message {
	if len(s.queue) == 0 {
		return api.Message{}
	}
	return s.queue[0]
}

// number tells the number of the station's message: those behind it in the
// queue joined after it.
func (s *station) number() int {
	return s.joined - len(s.queue) + 1
}

// leave makes the queue anew, so that nothing is kept of the message.
func (s *station) leave() {
	rest := []api.Message{}
	for i := 1; i < len(s.queue); i++ {
		rest = append(rest, s.queue[i])
	}
	s.queue = rest
}
