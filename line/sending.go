package line

import (
	"duplex/api"
	"duplex/frame"
)

func (s *station) actSending(kind int, c api.Config) api.Event {
	switch {
	case kind == expectedYes(s.own.block):
		return s.sendNext(c)
	case kind == api.Yes0 || kind == api.Yes1 || kind == api.No:
		return s.sendAgain(c)
	case kind == api.Later:
		return s.putOff(c)
	case s.wait == 0:
		return s.tryAgain(api.Ask, c)
	}
	return api.Event{}
}

// expectedYes: the yes to the bid was Yes0, and they take turns from there on.
func expectedYes(block int) int {
	if block%2 == 0 {
		return api.Yes1
	}
	return api.Yes0
}

func (s *station) send(block int, c api.Config) {
	s.mode = api.Sending
	s.own = turn{tries: 1, block: block}
	s.putBlock(c)
	s.beginWait(c)
}

func (s *station) sendNext(c api.Config) api.Event {
	m := s.message()
	b := blockOf(m, s.own.block, c)
	if b.Last {
		return s.finish(api.Sent)
	}
	next := s.own.block + 1
	s.send(next, c)
	return api.Event{}
}

func (s *station) sendAgain(c api.Config) api.Event {
	if s.own.tries > c.Tries {
		return s.finish(api.Failed)
	}
	s.own.tries++
	s.own.free = false
	s.putBlock(c)
	s.beginWait(c)
	return api.Event{}
}

func (s *station) putBlock(c api.Config) {
	m := s.message()
	b := blockOf(m, s.own.block, c)
	t, e := frame.Encode(b, c.Check)
	if e == api.OK {
		s.put = t
	}
}

// blockOf tells the block at a place of a message, from 0 on. All blocks but
// the last are full, so the bytes ahead of it need not be cut to find it.
func blockOf(m api.Message, place int, c api.Config) api.Block {
	full := c.Size * c.Parts
	from := place * full
	b := api.Block{Clear: m.Clear, Last: from+full >= len(m.Text)}
	if place == 0 {
		b.Head = m.Head
	}
	text := between(m.Text, from, from+full)
	b.Parts = partsOf(text, c.Size)
	return b
}

// partsOf answers one empty part of an empty text: a block has a part.
func partsOf(text string, size int) []string {
	parts := []string{between(text, 0, size)}
	for i := 1; i < api.MaxParts && i*size < len(text); i++ {
		part := between(text, i*size, (i+1)*size)
		parts = append(parts, part)
	}
	return parts
}

// between answers what there is of s from one place up to another.
func between(s string, from int, to int) string {
	if to > len(s) {
		to = len(s)
	}
	if from < 0 || from >= to {
		return ""
	}
	return s[from:to]
}
