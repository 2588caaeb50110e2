package frame_test

import (
	"fmt"
	"strings"
	"testing"

	"duplex/api"
	"duplex/frame"
)

// encodeByDocument puts one byte behind the other and remembers where the
// last check ended.
func encodeByDocument(b api.Block, check int) string {
	var body []byte
	if len(b.Head) > 0 {
		body = append(body, 0x01)
		body = append(body, b.Head...)
	}
	if b.Clear {
		body = append(body, 0x10)
	}
	body = append(body, 0x02)
	from := 0
	for i, part := range b.Parts {
		if b.Clear {
			body = append(body, strings.ReplaceAll(part, "\x10", "\x10\x10")...)
			body = append(body, 0x10)
		} else {
			body = append(body, part...)
		}
		switch {
		case i+1 < len(b.Parts):
			body = append(body, 0x1f)
		case b.Last:
			body = append(body, 0x03)
		default:
			body = append(body, 0x17)
		}
		body = append(body, sumByDocument(string(body[from:]), check)...)
		from = len(body)
	}
	return "\x16\x16" + string(body) + "\xff"
}

func wantEncoded(t *testing.T, b api.Block, check int, want string) {
	t.Helper()
	got, e := frame.Encode(b, check)
	if got != want || e != api.OK {
		t.Errorf("P5: Encode(%#v, %d) = % x, %d, want % x", b, check, got, e, want)
	}
}

func wantRefused(t *testing.T, b api.Block, check int, want api.Errno) {
	t.Helper()
	got, e := frame.Encode(b, check)
	if got != "" || e != want {
		t.Errorf("P5, P1: Encode(%#v, %d) = % x, %d, want nothing and the error %d", b, check, got, e, want)
	}
}

func TestEncodeExamples(t *testing.T) {
	for _, c := range []struct {
		b     api.Block
		check int
		want  string
	}{
		{api.Block{Parts: []string{"A"}, Last: true}, api.Xor, "16 16 02 41 03 40 ff"},
		{api.Block{Parts: []string{"A"}, Last: true}, api.Cyclic, "16 16 02 41 03 d1 91 ff"},
		{api.Block{Head: "H", Parts: []string{"A", "B"}}, api.Xor, "16 16 01 48 02 41 1f 15 42 17 55 ff"},
		{api.Block{Parts: []string{"\x10\x03"}, Clear: true, Last: true}, api.Xor, "16 16 10 02 10 10 03 10 03 02 ff"},
		{api.Block{Parts: []string{""}}, api.Xor, "16 16 02 17 15 ff"},
		{api.Block{Parts: []string{"AB"}}, api.Xor, "16 16 02 41 42 17 16 ff"},
		{api.Block{Parts: []string{"C"}, Last: true}, api.Xor, "16 16 02 43 03 42 ff"},
		{api.Block{Parts: []string{"A", "A"}, Last: true}, api.Cyclic, "16 16 02 41 1f d0 58 41 03 70 51 ff"},
		{api.Block{Head: "h", Parts: []string{"", "\x16"}, Clear: true, Last: true}, api.Xor, "16 16 01 68 10 02 10 1f 74 16 10 03 05 ff"},
		{api.Block{Parts: []string{"\x10"}, Clear: true}, api.Xor, "16 16 10 02 10 10 10 17 15 ff"},
		{api.Block{Parts: []string{"", "", "", ""}}, api.Xor, "16 16 02 1f 1d 1f 1f 1f 1f 17 17 ff"},
	} {
		wantEncoded(t, c.b, c.check, raw(t, c.want))
	}
}

func TestEncodeEveryShape(t *testing.T) {
	for _, b := range everyShape() {
		for _, check := range checks {
			wantEncoded(t, b, check, encodeByDocument(b, check))
		}
	}
}

func TestEncodeEveryByteInAHead(t *testing.T) {
	for i := 0; i < 256; i++ {
		c := string([]byte{byte(i)})
		for _, head := range []string{c, c + "abcdefg", "abcdefg" + c, "abc" + c + "de"} {
			for _, anyByte := range []bool{false, true} {
				b := api.Block{Head: head, Parts: []string{"A", "B"}, Clear: anyByte}
				if isOneOf(byte(i), controls) {
					wantRefused(t, b, api.Xor, api.ErrHead)
				} else {
					wantEncoded(t, b, api.Xor, encodeByDocument(b, api.Xor))
				}
			}
		}
	}
}

func TestEncodeEveryByteInAPart(t *testing.T) {
	for i := 0; i < 256; i++ {
		c := string([]byte{byte(i)})
		for _, part := range []string{c, c + "rest", "ahead" + c, strings.Repeat("x", 31) + c} {
			for place := 0; place < 4; place++ {
				parts := []string{"k", "", "m", "n"}
				parts[place] = part
				plain := api.Block{Head: "H", Parts: parts, Last: true}
				if isOneOf(byte(i), controls) {
					wantRefused(t, plain, api.Cyclic, api.ErrText)
				} else {
					wantEncoded(t, plain, api.Cyclic, encodeByDocument(plain, api.Cyclic))
				}
				coded := api.Block{Head: "H", Parts: parts, Clear: true, Last: true}
				wantEncoded(t, coded, api.Cyclic, encodeByDocument(coded, api.Cyclic))
			}
		}
	}
}

func TestEncodeLengthOfAHead(t *testing.T) {
	for n := 0; n <= 300; n++ {
		for _, anyByte := range []bool{false, true} {
			b := api.Block{Head: strings.Repeat("h", n), Parts: []string{""}, Clear: anyByte}
			if n > 8 {
				wantRefused(t, b, api.Xor, api.ErrHead)
			} else {
				wantEncoded(t, b, api.Xor, encodeByDocument(b, api.Xor))
			}
		}
	}
}

// A byte counts as one towards the bound, also where it is written twice.
func TestEncodeLengthOfAPart(t *testing.T) {
	for n := 0; n <= 300; n++ {
		for _, b := range []api.Block{
			{Parts: []string{strings.Repeat("a", n)}},
			{Parts: []string{"", "", "", strings.Repeat("a", n)}, Last: true},
			{Parts: []string{strings.Repeat("a", n), "b"}, Clear: true},
			{Parts: []string{"b", strings.Repeat("\x10", n)}, Clear: true},
		} {
			if n > 32 {
				wantRefused(t, b, api.Xor, api.ErrText)
			} else {
				wantEncoded(t, b, api.Xor, encodeByDocument(b, api.Xor))
			}
		}
	}
}

func TestEncodeNumberOfParts(t *testing.T) {
	for n := 0; n <= 300; n++ {
		for _, text := range []string{"", "A"} {
			parts := make([]string, n)
			for i := range parts {
				parts[i] = text
			}
			for _, anyByte := range []bool{false, true} {
				b := api.Block{Parts: parts, Clear: anyByte}
				if n < 1 || n > 4 {
					wantRefused(t, b, api.Cyclic, api.ErrParts)
				} else {
					wantEncoded(t, b, api.Cyclic, encodeByDocument(b, api.Cyclic))
				}
			}
		}
	}
	wantRefused(t, api.Block{}, api.Xor, api.ErrParts)
	wantRefused(t, api.Block{Head: "H", Last: true}, api.Xor, api.ErrParts)
}

func TestEncodeNamesTheFirstError(t *testing.T) {
	badHeads := []string{"123456789", "\x01", "1234567\x1f", "12345678\x10"}
	long := strings.Repeat("a", 33)
	badParts := [][]string{{"\x05"}, {long}, {"a", "\x10"}, {"", "", "", long}, {long, "\x03"}}
	tooMany := [][]string{nil, {}, {"", "", "", "", ""}, {"\x05", long, "", "", ""}}
	for _, check := range noChecks {
		wantRefused(t, api.Block{Parts: []string{"A"}}, check, api.ErrCheck)
		wantRefused(t, api.Block{Head: "\x01", Parts: []string{"\x05"}}, check, api.ErrCheck)
		wantRefused(t, api.Block{Head: "123456789"}, check, api.ErrCheck)
		wantRefused(t, api.Block{}, check, api.ErrCheck)
		wantRefused(t, api.Block{Parts: []string{long}, Clear: true}, check, api.ErrCheck)
	}
	for _, check := range checks {
		for _, head := range badHeads {
			wantRefused(t, api.Block{Head: head, Parts: []string{"A"}}, check, api.ErrHead)
			for _, parts := range append(badParts, tooMany...) {
				wantRefused(t, api.Block{Head: head, Parts: parts}, check, api.ErrHead)
				wantRefused(t, api.Block{Head: head, Parts: parts, Clear: true}, check, api.ErrHead)
			}
		}
		for _, parts := range tooMany {
			wantRefused(t, api.Block{Parts: parts}, check, api.ErrParts)
			wantRefused(t, api.Block{Head: "H", Parts: parts, Clear: true}, check, api.ErrParts)
		}
		for _, parts := range badParts {
			wantRefused(t, api.Block{Head: "H", Parts: parts}, check, api.ErrText)
		}
	}
}

// P2: neither the parts nor the spare room behind them are written into,
// whether the block is encoded or refused.
func TestEncodeLeavesThePartsAlone(t *testing.T) {
	for n := 0; n <= 6; n++ {
		for _, text := range []string{"A", "\x10", "", strings.Repeat("x", 33)} {
			for _, anyByte := range []bool{false, true} {
				for _, check := range []int{api.Xor, api.Cyclic, 2} {
					room := make([]string, 12)
					for i := range room {
						room[i] = fmt.Sprint(text, i)
					}
					before := append([]string{}, room...)
					frame.Encode(api.Block{Head: "H", Parts: room[2 : 2+n], Clear: anyByte}, check)
					if strings.Join(room, "|") != strings.Join(before, "|") {
						t.Errorf("P2: Encode of %d parts wrote into the list: %+q, was %+q", n, room, before)
					}
				}
			}
		}
	}
}

// P2: what comes out stays as it is when the list is written into later.
func TestEncodeKeepsNothing(t *testing.T) {
	parts := []string{"A", "B"}
	b := api.Block{Head: "H", Parts: parts}
	want := raw(t, "16 16 01 48 02 41 1f 15 42 17 55 ff")
	got, _ := frame.Encode(b, api.Xor)
	parts[0] = "other"
	parts[1] = "\x05"
	wantRefused(t, b, api.Xor, api.ErrText)
	if got != want {
		t.Errorf("P2: an answer has become % x, was % x", got, want)
	}
}

// P2: the answers depend on the arguments alone, not on the calls between.
func TestAnswersDoNotDependOnEarlierCalls(t *testing.T) {
	b := api.Block{Head: "H", Parts: []string{"A", "B"}}
	for i := 0; i < 3; i++ {
		wantEncoded(t, b, api.Xor, raw(t, "16 16 01 48 02 41 1f 15 42 17 55 ff"))
		wantRefused(t, api.Block{Parts: []string{"\x05"}}, api.Cyclic, api.ErrText)
		wantEncoded(t, api.Block{Parts: []string{"A"}, Last: true}, api.Cyclic, raw(t, "16 16 02 41 03 d1 91 ff"))
		wantRefused(t, b, 7, api.ErrCheck)
		short, e := frame.Short(api.Bid)
		if short != raw(t, shorts[api.Bid]) || e != api.OK {
			t.Errorf("P2: Short(Bid) = % x, %d in round %d", short, e, i)
		}
		sum, e := frame.Sum("123456789", api.Cyclic)
		if sum != "\x3d\xbb" || e != api.OK {
			t.Errorf("P2: Sum = % x, %d in round %d", sum, e, i)
		}
		frame.Short(-1)
		frame.Sum("x", -1)
	}
}
