package chars_test

import (
	"math"
	"strings"
	"testing"

	"duplex/chars"
)

const controls = "\x01\x02\x03\x04\x05\x10\x15\x16\x17\x1f"

func TestEveryByte(t *testing.T) {
	for i := 0; i < 256; i++ {
		control := strings.IndexByte(controls, byte(i)) >= 0
		if chars.IsControl(byte(i)) != control {
			t.Errorf("Words: IsControl(%02x) is %v", i, !control)
		}
		c := string([]byte{byte(i)})
		for _, s := range []string{c, c + "abcdefg", "abcdefg" + c, "abc" + c + "d"} {
			if chars.IsHead(s) == control {
				t.Errorf("Words: IsHead(%q) is %v", s, control)
			}
			if chars.IsText(s, 8, false) == control {
				t.Errorf("Words: IsText(%q, 8, false) is %v", s, control)
			}
			if !chars.IsText(s, 8, true) {
				t.Errorf("Words: IsText(%q, 8, true) is false", s)
			}
		}
	}
}

func TestLengths(t *testing.T) {
	for n := 0; n <= 300; n++ {
		s := strings.Repeat("a", n)
		if chars.IsHead(s) != (n <= 8) {
			t.Errorf("Words: IsHead of %d bytes is %v", n, n > 8)
		}
		for _, most := range []int{0, 1, 32, 200, 299, 300, math.MaxInt, -1, math.MinInt} {
			for _, anyByte := range []bool{false, true} {
				if chars.IsText(s, most, anyByte) != (n <= most) {
					t.Errorf("Words: IsText of %d bytes, at most %d, is %v", n, most, n > most)
				}
			}
		}
		long := strings.Repeat("\x10", n)
		if chars.IsText(long, 200, true) != (n <= 200) || chars.IsText(long, 200, false) != (n == 0) || chars.IsHead(long) != (n == 0) {
			t.Errorf("Words: a text or head of %d DLE", n)
		}
	}
}
