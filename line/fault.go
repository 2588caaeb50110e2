package line

import "duplex/api"

// speaker answers the one station that has something on the line, and nil
// where both or neither have.
func (x *Line) speaker() *station {
	a := &x.stations[0]
	b := &x.stations[1]
	if a.put != "" && b.put == "" {
		return a
	}
	if a.put == "" && b.put != "" {
		return b
	}
	return nil
}

// faulted answers what a fault leaves of a transmission.
func faulted(s string, kind int, place int, value int) (string, api.Errno) {
	switch kind {
	case api.Lose:
		return "", api.OK
	case api.Cut:
		return afterCut(s, place)
	case api.Turn:
		return afterTurn(s, place, value)
	case api.Noise:
		return afterNoise(s, place, value)
	}
	return "", api.ErrFault
}

func afterCut(s string, place int) (string, api.Errno) {
	if place < 0 || place > len(s) {
		return "", api.ErrFault
	}
	return s[:place], api.OK
}

func afterTurn(s string, place int, value int) (string, api.Errno) {
	if place < 0 || place >= len(s) {
		return "", api.ErrFault
	}
	// A value of 0 would leave the byte as it is: that is no fault.
	if !isWithin(value, 1, 255) {
		return "", api.ErrFault
	}
	out := []byte(s)
	out[place] ^= byte(value)
	return string(out), api.OK
}

func afterNoise(s string, place int, value int) (string, api.Errno) {
	if place < 0 || place > len(s) {
		return "", api.ErrFault
	}
	if !isWithin(value, 0, 255) || len(s) >= api.MaxLine {
		return "", api.ErrFault
	}
	out := []byte(s[:place])
	out = append(out, byte(value))
	out = append(out, s[place:]...)
	return string(out), api.OK
}
