package line

import "duplex/api"

// receipt is what a station knows while it is Receiving.
type receipt struct {
	head string
	text string
	yes  int // the last yes
}

func (s *station) actReceiving(h api.Heard, c api.Config) api.Event {
	switch {
	case h.Kind == api.Data:
		s.beginWait(c)
		return s.receive(h.Block)
	case h.Kind == api.Torn:
		s.putShort(api.No)
		s.beginWait(c)
	case h.Kind == api.Ask:
		s.putYes()
		s.beginWait(c)
	case h.Kind == api.Bid:
		s.answer(c)
	case h.Kind == api.End || s.wait == 0:
		s.becomeIdle()
	}
	return api.Event{}
}

func (s *station) receive(b api.Block) api.Event {
	head := s.got.head + b.Head
	text := s.got.text + textOf(b.Parts)
	if len(head) > api.MaxHead || len(text) > api.MaxMessage {
		s.putShort(api.No)
		return api.Event{}
	}
	s.got = receipt{head: head, text: text, yes: otherYes(s.got.yes)}
	s.putYes()
	if !b.Last {
		return api.Event{}
	}
	s.got = receipt{yes: s.got.yes}
	m := api.Message{Head: head, Text: text, Clear: b.Clear}
	return api.Event{Kind: api.Delivered, Station: s.side, Message: m}
}

// putYes keeps the yes for later while the station is busy: Ask will fetch it.
func (s *station) putYes() {
	if s.busy {
		s.putShort(api.Later)
		return
	}
	s.putShort(s.got.yes)
}

func otherYes(yes int) int {
	if yes == api.Yes0 {
		return api.Yes1
	}
	return api.Yes0
}

func textOf(parts []string) string {
	text := ""
	for i := 0; i < len(parts); i++ {
		text += parts[i]
	}
	return text
}
