package frame_test

import (
	"encoding/hex"
	"math"
	"strings"
	"testing"

	"duplex/api"
)

var checks = []int{api.Xor, api.Cyclic}

var noChecks = []int{-1, 2, 3, 256, 257, -255, 1 << 16, 1 << 32, 1<<32 + 1, math.MaxInt, math.MinInt, math.MinInt + 1}

var controls = []byte{0x01, 0x02, 0x03, 0x04, 0x05, 0x10, 0x15, 0x16, 0x17, 0x1f}

func raw(t *testing.T, s string) string {
	t.Helper()
	b, err := hex.DecodeString(strings.ReplaceAll(s, " ", ""))
	if err != nil {
		t.Fatal(err)
	}
	return string(b)
}

func isOneOf(c byte, list []byte) bool {
	return strings.IndexByte(string(list), c) >= 0
}

func everyByte() string {
	b := make([]byte, 256)
	for i := range b {
		b[i] = byte(i)
	}
	return string(b)
}

// everyShape: blocks with and without a head, with one to four parts, with all
// marks, and with the texts that are hard to tell from what stands around them.
func everyShape() []api.Block {
	heads := []string{"", "H", "\xff", "\x00\x7f", "12345678"}
	plain := []string{"", "A", "BC", "\xff\x00", strings.Repeat("z", 32)}
	coded := []string{"", "A", "\x10", "\x10\x10", "\x10\x03", "\x1f\x10", "\x16\x16\x02", strings.Repeat("\x10", 32)}
	var all []api.Block
	for _, head := range heads {
		for count := 1; count <= 4; count++ {
			for shape := 0; shape < 4; shape++ {
				texts := plain
				if shape&1 != 0 {
					texts = coded
				}
				for first := range texts {
					b := api.Block{Head: head, Clear: shape&1 != 0, Last: shape&2 != 0}
					for i := 0; i < count; i++ {
						b.Parts = append(b.Parts, texts[(first+i)%len(texts)])
					}
					all = append(all, b)
				}
			}
		}
	}
	return all
}
