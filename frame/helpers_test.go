package frame_test

import (
	"encoding/hex"
	"math"
	"strings"
	"testing"

	"duplex/api"
)

var checks = []int{api.Xor, api.Cyclic}

var noChecks = []int{-1, 2, 3, 256, 257, -255, 1 << 16, 1 << 32, 1<<32 + 1, math.MaxInt, math.MinInt, math.MinInt + 1}

var controls = []byte{0x01, 0x02, 0x03, 0x04, 0x05, 0x10, 0x15, 0x16, 0x17, 0x1f}

func raw(t *testing.T, s string) string {
	t.Helper()
	b, err := hex.DecodeString(strings.ReplaceAll(s, " ", ""))
	if err != nil {
		t.Fatal(err)
	}
	return string(b)
}

func isOneOf(c byte, list []byte) bool {
	return strings.IndexByte(string(list), c) >= 0
}

func everyByte() string {
	b := make([]byte, 256)
	for i := range b {
		b[i] = byte(i)
	}
	return string(b)
}
