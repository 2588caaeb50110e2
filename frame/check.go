package frame

import "duplex/api"

// turnedDivisor is x^15 + x^2 + 1 with the coefficient of x^15 in the lowest
// bit: a byte's lowest bit comes first, so the remainder is kept that way
// round too. The divisor's x^16 is the bit that is shifted out.
const turnedDivisor = 0xa001

func isCheck(check int) bool {
	return check == api.Xor || check == api.Cyclic
}

// checkBytes is for checks that isCheck allows.
func checkBytes(s string, check int) string {
	if check == api.Cyclic {
		return cyclicBytes(s)
	}
	return xorByte(s)
}

// checkLength is for checks that isCheck allows.
func checkLength(check int) int {
	if check == api.Cyclic {
		return 2
	}
	return 1
}

func xorByte(s string) string {
	sum := byte(0)
	for i := 0; i < len(s); i++ {
		sum ^= s[i]
	}
	return string([]byte{sum})
}

func cyclicBytes(s string) string {
	rest := uint16(0)
	for i := 0; i < len(s); i++ {
		rest = divideByte(rest ^ uint16(s[i]))
	}
	return string([]byte{byte(rest & 0xff), byte(rest >> 8)})
}

func divideByte(rest uint16) uint16 {
	for bit := 0; bit < 8; bit++ {
		out := rest & 1
		rest >>= 1
		if out == 1 {
			rest ^= turnedDivisor
		}
	}
	return rest
}
