package frame_test

import (
	"strings"

	"duplex/api"
)

// readByDocument goes over the bytes once, from the first to the last, and
// tests each where it stands; the program writes the block again instead.
func readByDocument(s string, check int) api.Heard {
	_, behind, found := strings.Cut(s, "\x16\x16")
	if !found {
		return api.Heard{}
	}
	rest := strings.TrimLeft(behind, "\x16")
	for _, start := range []string{"\x01", "\x02", "\x10\x02"} {
		if strings.HasPrefix(rest, start) {
			b, ok := blockByDocument(rest, check)
			if !ok {
				return api.Heard{Kind: 1}
			}
			return api.Heard{Kind: 2, Block: b}
		}
	}
	for i, body := range []string{"\x04\x05", "\x05", "\x04", "\x15", "\x100", "\x101", "\x10;"} {
		if rest == body+"\xff" {
			return api.Heard{Kind: 3 + i}
		}
	}
	return api.Heard{}
}

func blockByDocument(rest string, check int) (api.Block, bool) {
	var b api.Block
	left := rest
	if behind, ok := strings.CutPrefix(left, "\x01"); ok {
		n := strings.IndexAny(behind, "\x01\x02\x03\x04\x05\x10\x15\x16\x17\x1f")
		if n < 1 || n > 8 {
			return b, false
		}
		b.Head, left = behind[:n], behind[n:]
	}
	if behind, ok := strings.CutPrefix(left, "\x10"); ok {
		b.Clear, left = true, behind
	}
	left, ok := strings.CutPrefix(left, "\x02")
	if !ok {
		return b, false
	}
	covered := rest[:len(rest)-len(left)]
	for {
		text, end, size, ok := partByDocument(left, b.Clear)
		if !ok || len(b.Parts) == 4 {
			return b, false
		}
		b.Parts = append(b.Parts, text)
		sum := sumByDocument(covered+left[:size], check)
		if left, ok = strings.CutPrefix(left[size:], sum); !ok {
			return b, false
		}
		covered = ""
		if end != 0x1f {
			b.Last = end == 0x03
			return b, left == "\xff"
		}
	}
}

// partByDocument answers a part's text, its end, and how many bytes both have.
func partByDocument(s string, anyByte bool) (text string, end byte, size int, ok bool) {
	for size < len(s) && len(text) <= 32 {
		c := s[size]
		size++
		if anyByte && c != 0x10 || !anyByte && !isOneOf(c, controls) {
			text += string([]byte{c})
			continue
		}
		if anyByte {
			if size == len(s) {
				return "", 0, 0, false
			}
			c = s[size]
			size++
			if c == 0x10 {
				text += "\x10"
				continue
			}
		}
		return text, c, size, c == 0x1f || c == 0x17 || c == 0x03
	}
	return "", 0, 0, false
}
