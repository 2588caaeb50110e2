package frame

import (
	"duplex/api"
	"duplex/chars"
)

// behindSyns answers what follows the first two SYN that stand one behind the
// other, and all further SYN behind those.
func behindSyns(s string) string {
	at := firstPair(s)
	for at < len(s) && s[at] == api.SYN {
		at++
	}
	return s[at:]
}

// firstPair answers the length of s where no two SYN stand together: then
// nothing is left behind them.
func firstPair(s string) int {
	for i := 1; i < len(s); i++ {
		if s[i-1] == api.SYN && s[i] == api.SYN {
			return i - 1
		}
	}
	return len(s)
}

func beginsBlock(rest string) bool {
	switch byteAt(rest, 0) {
	case api.SOH, api.STX:
		return true
	case api.DLE:
		return byteAt(rest, 1) == api.STX
	}
	return false
}

// shortKind takes Bid and Later as the first and the last of the kinds that
// have a short transmission, as they are numbered.
func shortKind(rest string) int {
	for kind := api.Bid; kind <= api.Later; kind++ {
		body := shortBody(kind)
		if rest == padded(body) {
			return kind
		}
	}
	return api.Silence
}

// heardBlock is for a rest that begins as a block. The checks and all else
// that P5 fixes are tested by writing the block that was found once more: any
// place in which the rest is no block then differs.
func heardBlock(rest string, check int) api.Heard {
	b := foundBlock(rest, check)
	e := blockError(b)
	if e != api.OK {
		return api.Heard{Kind: api.Torn}
	}
	body := blockBody(b, check)
	if rest != padded(body) {
		return api.Heard{Kind: api.Torn}
	}
	return api.Heard{Kind: api.Data, Block: b}
}

// foundBlock answers the only block that the rest could be the body of. It
// tests nothing, and goes over the checks unread: see heardBlock.
func foundBlock(rest string, check int) api.Block {
	b := api.Block{Head: foundHead(rest)}
	b.Clear = foundClear(rest, b.Head)
	start := opening(b)
	at := len(start)
	end := byte(api.ITB)
	// One part more than a block may have is enough to tell that it is none.
	for end == api.ITB && len(b.Parts) <= api.MaxParts {
		text, last, next := foundPart(rest, at, b.Clear)
		b.Parts = append(b.Parts, text)
		end = last
		at = next + checkLength(check)
	}
	b.Last = end == api.ETX
	return b
}

func foundHead(rest string) string {
	if byteAt(rest, 0) != api.SOH {
		return ""
	}
	to := 1
	for to < len(rest) && !chars.IsControl(rest[to]) {
		to++
	}
	return rest[1:to]
}

// foundClear looks at the byte behind the head: in a Clear block it is DLE.
func foundClear(rest string, head string) bool {
	if head == "" {
		return byteAt(rest, 0) == api.DLE
	}
	return byteAt(rest, 1+len(head)) == api.DLE
}

// foundPart answers the text of the part that begins at a place, the character
// that ends it, and the place behind that. A part without an end goes up to
// the end of the rest, and its end is 0.
func foundPart(rest string, at int, anyByte bool) (string, byte, int) {
	text := []byte{}
	for at < len(rest) {
		c := rest[at]
		at++
		if anyByte && c == api.DLE {
			// What follows a DLE is text if it is a second DLE, else it ends the part.
			c = byteAt(rest, at)
			at++
			if c != api.DLE {
				return string(text), c, at
			}
		} else if !anyByte && chars.IsControl(c) {
			return string(text), c, at
		}
		text = append(text, c)
	}
	return string(text), 0, at
}

// byteAt answers 0 where there is no byte: 0 has no meaning on the line.
func byteAt(s string, at int) byte {
	if at < 0 || at >= len(s) {
		return 0
	}
	return s[at]
}
