// Package chars: which bytes may stand in heads and texts, of blocks and of messages: see DOC.md.
package chars

import "duplex/api"

// IsControl tells whether a byte is one of the ten control characters.
func IsControl(c byte) bool {
	switch c {
	case api.SOH, api.STX, api.ETX, api.EOT, api.ENQ, api.DLE, api.NAK, api.SYN, api.ETB, api.ITB:
		return true
	}
	return false
}

// IsHead tells whether a block or a message may have this head.
func IsHead(head string) bool {
	return len(head) <= api.MaxHead && !hasControl(head)
}

// IsText tells whether a text of at most so many bytes may be this one, where
// any byte may stand in it or where no control character may.
func IsText(text string, most int, anyByte bool) bool {
	return len(text) <= most && (anyByte || !hasControl(text))
}

func hasControl(s string) bool {
	for i := 0; i < len(s); i++ {
		if IsControl(s[i]) {
			return true
		}
	}
	return false
}
