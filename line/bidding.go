package line

import "duplex/api"

func (s *station) actIdle(kind int, c api.Config) {
	if kind == api.Bid {
		s.answer(c)
		return
	}
	if len(s.queue) > 0 && s.rest == 0 {
		s.bid(c)
	}
}

func (s *station) actBidding(kind int, c api.Config) api.Event {
	switch {
	case kind == api.Yes0:
		s.send(0, c)
	case kind == api.Later:
		return s.putOff(c)
	case kind == api.Bid && s.side == 1:
		// One of the two has to give way, or they would bid against each other.
		s.answer(c)
	case s.wait == 0:
		return s.tryAgain(api.Bid, c)
	}
	return api.Event{}
}

func (s *station) bid(c api.Config) {
	s.mode = api.Bidding
	s.own = turn{tries: 1}
	s.putShort(api.Bid)
	s.beginWait(c)
}

// answer drops whatever the station was at when it heard a Bid.
func (s *station) answer(c api.Config) {
	s.becomeIdle()
	if s.busy {
		s.putShort(api.Later)
		return
	}
	s.mode = api.Receiving
	s.got.yes = api.Yes0
	s.putShort(api.Yes0)
	s.beginWait(c)
}
