package frame_test

import (
	"strings"
	"testing"

	"duplex/api"
	"duplex/frame"
)

// sumByDocument follows the words of the document bit by bit: it writes the
// polynomial out and divides it, where the program keeps a running remainder.
func sumByDocument(s string, check int) string {
	if check == api.Xor {
		all := 0
		for _, c := range []byte(s) {
			all ^= int(c)
		}
		return string([]byte{byte(all)})
	}
	var bits []int
	for _, c := range []byte(s) {
		for k := 0; k < 8; k++ {
			bits = append(bits, int(c>>k)&1)
		}
	}
	n := len(bits)
	bits = append(bits, make([]int, 16)...)
	for i := 0; i < n; i++ {
		if bits[i] == 1 {
			for _, down := range []int{0, 1, 14, 16} { // x^16, x^15, x^2, 1
				bits[i+down] ^= 1
			}
		}
	}
	out := []byte{0, 0}
	for i, bit := range bits[n:] {
		out[i/8] |= byte(bit << (i % 8))
	}
	return string(out)
}

func TestSumExamples(t *testing.T) {
	for _, c := range []struct {
		s     string
		check int
		want  string
	}{
		{"", api.Xor, "00"},
		{"00", api.Xor, "00"},
		{"41 42", api.Xor, "03"},
		{"41 41", api.Xor, "00"},
		{"ff", api.Xor, "ff"},
		{"80 01 ff", api.Xor, "7e"},
		{"", api.Cyclic, "00 00"},
		{"00", api.Cyclic, "00 00"},
		{"00 00 00 00", api.Cyclic, "00 00"},
		{"31 32 33 34 35 36 37 38 39", api.Cyclic, "3d bb"},
		{"02 41 03", api.Cyclic, "d1 91"},
		{"01", api.Cyclic, "c1 c0"},
		{"80", api.Cyclic, "01 a0"},
		{"ff", api.Cyclic, "40 40"},
	} {
		got, e := frame.Sum(raw(t, c.s), c.check)
		if got != raw(t, c.want) || e != api.OK {
			t.Errorf("P3: Sum(%s, %d) = % x, %d, want %s", c.s, c.check, got, e, c.want)
		}
	}
}

func TestSumOfEveryByteAndPair(t *testing.T) {
	for _, check := range checks {
		for i := 0; i < 256; i++ {
			for j := -1; j < 256; j++ {
				s := string([]byte{byte(i)})
				if j >= 0 {
					s += string([]byte{byte(j)})
				}
				got, e := frame.Sum(s, check)
				if got != sumByDocument(s, check) || e != api.OK {
					t.Fatalf("P3: Sum(% x, %d) = % x, %d, want % x", s, check, got, e, sumByDocument(s, check))
				}
			}
		}
	}
}

func TestSumOfLongStrings(t *testing.T) {
	all := everyByte()
	for _, s := range []string{all, strings.Repeat(all, 20), strings.Repeat("\xff", 1000), strings.Repeat("\x00", 999) + "\x01", all[3:] + "é€\xc3"} {
		for _, check := range checks {
			got, e := frame.Sum(s, check)
			if got != sumByDocument(s, check) || e != api.OK {
				t.Errorf("P3: Sum of %d bytes, check %d = % x, %d, want % x", len(s), check, got, e, sumByDocument(s, check))
			}
		}
	}
}

// Bytes with their own check behind them leave nothing, with either check.
func TestSumBehindItself(t *testing.T) {
	for n := 0; n <= 256; n++ {
		s := everyByte()[:n]
		for _, check := range checks {
			sum, _ := frame.Sum(s, check)
			got, e := frame.Sum(s+sum, check)
			if strings.Trim(got, "\x00") != "" || len(got) != len(sum) || e != api.OK {
				t.Errorf("P3: Sum of %d bytes and their check %d = % x, %d", n, check, got, e)
			}
		}
	}
}

func TestSumOfNoCheck(t *testing.T) {
	for _, check := range noChecks {
		for _, s := range []string{"", "A", everyByte()} {
			got, e := frame.Sum(s, check)
			if got != "" || e != api.ErrCheck {
				t.Errorf("P3, P1: Sum(%d bytes, %d) = % x, %d, want nothing and ErrCheck", len(s), check, got, e)
			}
		}
	}
}
