package line

import "duplex/api"

// restTicks is how long a station rests behind its turn.
const restTicks = 3

// turn is what a station knows while it is Bidding or Sending.
type turn struct {
	tries int
	off   int  // how often it has been put off
	free  bool // the next Bid or Ask does not count as a try
	block int  // the place of the block that is being sent, from 0 on
}

// putOff is for both modes that wait for an answer: the other one is there,
// so the next Bid or Ask is free.
func (s *station) putOff(c api.Config) api.Event {
	s.own.off++
	if s.own.off > c.Waits {
		return s.finish(api.Failed)
	}
	s.own.free = true
	s.beginWait(c)
	return api.Event{}
}

// tryAgain is for a wait that is over: a Bidding station puts Bid, a Sending
// one Ask.
func (s *station) tryAgain(kind int, c api.Config) api.Event {
	if !s.own.free {
		if s.own.tries > c.Tries {
			return s.finish(api.Failed)
		}
		s.own.tries++
	}
	s.own.free = false
	s.putShort(kind)
	s.beginWait(c)
	return api.Event{}
}

// finish ends the turn: the station's message is Sent, or has Failed. End is
// for the one that receives, so a Bidding station does not put it.
func (s *station) finish(kind int) api.Event {
	e := api.Event{Kind: kind, Station: s.side, Number: s.number()}
	if s.mode == api.Sending {
		s.putShort(api.End)
	}
	s.leave()
	s.becomeIdle()
	s.rest = restTicks
	return e
}
