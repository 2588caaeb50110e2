// Package frame: transmissions: how they are made, and how they are read: see DOC.md.
package frame

import "duplex/api"

// Sum tells the check bytes of some bytes (P3).
func Sum(s string, check int) (string, api.Errno) {
	if !isCheck(check) {
		return "", api.ErrCheck
	}
	return checkBytes(s, check), api.OK
}

// Short makes a transmission without a block (P4).
func Short(kind int) (string, api.Errno) {
	body := shortBody(kind)
	if body == "" {
		return "", api.ErrKind
	}
	return transmission(body), api.OK
}

// Encode makes the transmission of a block (P5).
func Encode(b api.Block, check int) (string, api.Errno) {
	if !isCheck(check) {
		return "", api.ErrCheck
	}
	e := blockError(b)
	if e != api.OK {
		return "", e
	}
	body := blockBody(b, check)
	return transmission(body), api.OK
}

// Read tells what is heard of some bytes (P6).
func Read(s string, check int) (api.Heard, api.Errno) {
	if !isCheck(check) {
		return api.Heard{}, api.ErrCheck
	}
	rest := behindSyns(s)
	if beginsBlock(rest) {
		return heardBlock(rest, check), api.OK
	}
	return api.Heard{Kind: shortKind(rest)}, api.OK
}

func transmission(body string) string {
	out := []byte{api.SYN, api.SYN}
	rest := padded(body)
	out = append(out, rest...)
	return string(out)
}

func padded(body string) string {
	out := []byte(body)
	out = append(out, api.PAD)
	return string(out)
}

// shortBody answers the empty string for a kind that has no short
// transmission: no body of P4 is empty.
func shortBody(kind int) string {
	switch kind {
	case api.Bid:
		return string([]byte{api.EOT, api.ENQ})
	case api.Ask:
		return string([]byte{api.ENQ})
	case api.End:
		return string([]byte{api.EOT})
	case api.No:
		return string([]byte{api.NAK})
	case api.Yes0:
		return string([]byte{api.DLE, 0x30})
	case api.Yes1:
		return string([]byte{api.DLE, 0x31})
	case api.Later:
		return string([]byte{api.DLE, 0x3b})
	}
	return ""
}
