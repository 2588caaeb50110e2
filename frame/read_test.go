package frame_test

import (
	"fmt"
	"math/rand"
	"reflect"
	"strings"
	"testing"

	"duplex/api"
	"duplex/frame"
)

// wantHeard asks for the kind and the block to the last field: beside all
// kinds but Data the list of parts is nil too.
func wantHeard(t *testing.T, s string, check int, want api.Heard) {
	t.Helper()
	got, e := frame.Read(s, check)
	if !reflect.DeepEqual(got, want) || e != api.OK {
		t.Errorf("P6: Read(% x, %d) = %+v, %d, want %+v", s, check, got, e, want)
	}
}

func wantKind(t *testing.T, s string, check int, kind int) {
	t.Helper()
	wantHeard(t, s, check, api.Heard{Kind: kind})
}

func wantData(t *testing.T, s string, check int, b api.Block) {
	t.Helper()
	wantHeard(t, s, check, api.Heard{Kind: api.Data, Block: b})
}

// checked lays a right check behind each piece, and makes a transmission of
// all: what is wrong with it then is not the check.
func checked(check int, pieces ...string) string {
	s := "\x16\x16"
	for _, piece := range pieces {
		s += piece + sumByDocument(piece, check)
	}
	return s + "\xff"
}

func TestReadExamples(t *testing.T) {
	one := api.Block{Parts: []string{"A"}, Last: true}
	for _, c := range []struct {
		s     string
		check int
		want  api.Heard
	}{
		{"78 16 78 16 16 16 02 41 03 40 ff", api.Xor, api.Heard{Kind: api.Data, Block: one}},
		{"16 16 02 41 03 40 ff", api.Xor, api.Heard{Kind: api.Data, Block: one}},
		{"16 16 02 41 03 d1 91 ff", api.Cyclic, api.Heard{Kind: api.Data, Block: one}},
		{"16 16 01 48 02 41 1f 15 42 17 55 ff", api.Xor, api.Heard{Kind: api.Data, Block: api.Block{Head: "H", Parts: []string{"A", "B"}}}},
		{"16 16 10 02 10 10 03 10 03 02 ff", api.Xor, api.Heard{Kind: api.Data, Block: api.Block{Parts: []string{"\x10\x03"}, Clear: true, Last: true}}},
		{"16 16 02 17 15 ff", api.Xor, api.Heard{Kind: api.Data, Block: api.Block{Parts: []string{""}}}},
		{"16 16 02 40 03 40 ff", api.Xor, api.Heard{Kind: api.Torn}},
		{"16 16 02", api.Xor, api.Heard{Kind: api.Torn}},
		{"16 16 05 ff", api.Xor, api.Heard{Kind: api.Ask}},
		{"16 05 ff", api.Xor, api.Heard{}},
		{"16 16 05", api.Xor, api.Heard{}},
		{"16 16 05 ff ff", api.Xor, api.Heard{}},
	} {
		wantHeard(t, raw(t, c.s), c.check, c.want)
	}
}

func TestReadBlocksOfEveryShape(t *testing.T) {
	for _, b := range everyShape() {
		for _, check := range checks {
			s, _ := frame.Encode(b, check)
			wantData(t, s, check, b)
			wantData(t, encodeByDocument(b, check), check, b)
		}
	}
}

func TestReadEveryByteBack(t *testing.T) {
	for i := 0; i < 256; i++ {
		c := string([]byte{byte(i)})
		for _, check := range checks {
			coded := api.Block{Head: "H", Parts: []string{c, "A" + c, c + "A", c + c}, Clear: true, Last: true}
			wantData(t, encodeByDocument(coded, check), check, coded)
			if isOneOf(byte(i), controls) {
				continue
			}
			plain := api.Block{Head: c + "h" + c, Parts: []string{c, "A" + c, c + "A", c + c}}
			wantData(t, encodeByDocument(plain, check), check, plain)
		}
	}
}

// A block whose text looks like an end, a start or a transmission is one block.
func TestReadTextThatLooksLikeMore(t *testing.T) {
	for _, text := range []string{"\x16\x16\x05\xff", "\x10\x03\x02\xff", "\x10\x1f\x10\x17", "\x02A\x03@\xff", "\x01H\x02", "\x10\x02", "\x10\x10\x10", "\xff\xff"} {
		for _, check := range checks {
			b := api.Block{Parts: []string{text, text}, Clear: true, Last: true}
			wantData(t, encodeByDocument(b, check), check, b)
		}
	}
}

func TestReadPassesOverWhatIsAhead(t *testing.T) {
	b := api.Block{Head: "H", Parts: []string{"A", "B"}}
	noise := strings.Repeat(everyByte(), 2)
	for _, check := range checks {
		s := encodeByDocument(b, check)
		for _, ahead := range []string{"", "x", "\x16", "\x16x", "x\x16", "\x16x\x16y\x16\xff", "\x05\xff", "\x02A\x03@\xff", "\x10", "\x10\x02", "\x01", noise, "\x16" + noise + "\x16"} {
			for more := 0; more < 20; more++ {
				syns := ahead + strings.Repeat("\x16", more)
				wantData(t, syns+s, check, b)
				wantKind(t, syns+"\x16\x16\x10\x30\xff", check, api.Yes0)
				wantKind(t, syns+"\x16\x16\x02\xff", check, api.Torn)
				wantKind(t, syns+"\x16\x16\x30\xff", check, api.Silence)
			}
		}
		for i := 0; i < 256; i++ {
			wantData(t, string([]byte{byte(i)})+s, check, b)
			wantData(t, string([]byte{0x16, byte(i)})+s, check, b)
			if i != 0x16 {
				wantKind(t, string([]byte{0x16, byte(i)})+s[1:], check, api.Silence)
			}
		}
	}
}

func TestReadBeginsAtTheFirstPairOfSyn(t *testing.T) {
	for _, check := range checks {
		block := encodeByDocument(api.Block{Parts: []string{"A"}, Last: true}, check)
		wantKind(t, "\x16\x16\x05\xff"+block, check, api.Silence)
		wantKind(t, "\x16\x16x"+block, check, api.Silence)
		wantKind(t, "\x16\x16\xff"+block, check, api.Silence)
		wantKind(t, "\x16\x16\x10"+block, check, api.Silence)
		wantKind(t, "\x16\x16\x02"+block, check, api.Torn)
		wantKind(t, "\x16\x16\x10\x02"+block, check, api.Torn)
		wantKind(t, block+block, check, api.Torn)
		wantKind(t, block+"\x16\x16\x05\xff", check, api.Torn)
		wantKind(t, "\x16\x16\x05\xff\x16\x16\x04\xff", check, api.Silence)
		wantKind(t, "\x16x\x16\x16\x05\x16\x16\x05\xff", check, api.Silence)
		// Without its own two SYN a block is heard from the pair in its text on.
		inside := encodeByDocument(api.Block{Parts: []string{"a\x16\x16\x16\x05\xff"}, Clear: true}, check)
		wantKind(t, inside[1:], check, api.Silence)
		wantKind(t, inside[1:10], check, api.Ask)
	}
}

func TestReadWithoutARest(t *testing.T) {
	for _, check := range checks {
		for n := 0; n <= 400; n++ {
			wantKind(t, strings.Repeat("\x16", n), check, api.Silence)
		}
		for _, s := range []string{"x", "x\x16\x16", "x\x16y\x16\x16\x16", "\x16x", "\x16\x05\xff", "\x05\xff", "\x02A\x03@\xff", "\x10\x02\x03\x10\x03\x02\xff", "\x16x\x16\x05\xff", everyByte(), strings.Repeat("\x16\x05\xff", 50)} {
			wantKind(t, s, check, api.Silence)
		}
	}
}

func TestReadWrongChecks(t *testing.T) {
	for _, check := range checks {
		for _, b := range []api.Block{
			{Parts: []string{"A"}, Last: true},
			{Head: "H", Parts: []string{"A", "", "B", "C"}},
			{Head: "H", Parts: []string{"\x10", "\x03", "\x1f"}, Clear: true},
		} {
			for part := range b.Parts {
				s := []byte(encodeByDocument(b, check))
				upTo := api.Block{Head: b.Head, Parts: b.Parts[:part+1], Clear: b.Clear}
				behind := len(encodeByDocument(upTo, check)) - 1
				for place := behind - len(sumByDocument("", check)); place < behind; place++ {
					right := s[place]
					for change := 1; change < 256; change++ {
						s[place] = right ^ byte(change)
						wantKind(t, string(s), check, api.Torn)
					}
					s[place] = right
				}
				wantData(t, string(s), check, b)
			}
		}
	}
	for _, b := range everyShape() {
		wantKind(t, encodeByDocument(b, api.Cyclic), api.Xor, api.Torn)
		wantKind(t, encodeByDocument(b, api.Xor), api.Cyclic, api.Torn)
	}
}

// A check that covers too much or too little is as wrong as any other. (One
// that covers a part before it with that part's own check comes out the same,
// since bytes with their check behind them leave nothing.)
func TestReadWhatACheckCovers(t *testing.T) {
	for _, check := range checks {
		sum := func(s string) string { return sumByDocument(s, check) }
		first := "\x02A\x1f" + sum("\x02A\x1f")
		wantData(t, "\x16\x16"+first+"B\x03"+sum("B\x03")+"\xff", check, api.Block{Parts: []string{"A", "B"}, Last: true})
		for _, wrong := range []string{sum("\x02A\x1fB\x03"), sum("B"), sum("\x02B\x03"), sum("B\x03\xff"), sum("\x03")} {
			wantKind(t, "\x16\x16"+first+"B\x03"+wrong+"\xff", check, api.Torn)
		}
		for _, wrong := range []string{sum("\x16\x16\x16\x02A\x03"), sum("A\x03"), sum("\x02A"), sum("A")} {
			wantKind(t, "\x16\x16\x02A\x03"+wrong+"\xff", check, api.Torn)
		}
		// Of a Clear part the check covers both DLE, and the one of the end.
		wantKind(t, "\x16\x16\x10\x02\x10\x10\x10\x03"+sum("\x10\x02\x10\x10\x03")+"\xff", check, api.Torn)
		wantKind(t, "\x16\x16\x10\x02\x10\x10\x10\x03"+sum("\x10\x02\x10\x10\x10")+"\xff", check, api.Torn)
		wantKind(t, "\x16\x16\x01H\x02A\x03"+sum("\x02A\x03")+"\xff", check, api.Torn)
	}
}

func TestReadBytesBehindABlock(t *testing.T) {
	for _, check := range checks {
		for _, b := range []api.Block{
			{Parts: []string{"A"}, Last: true},
			{Parts: []string{"\xff"}},
			{Head: "H", Parts: []string{"", "\x10"}, Clear: true},
		} {
			s := encodeByDocument(b, check)
			body := s[:len(s)-1]
			wantKind(t, body, check, api.Torn)
			for i := 0; i < 256; i++ {
				c := string([]byte{byte(i)})
				wantKind(t, s+c, check, api.Torn)
				wantKind(t, body+c+"\xff", check, api.Torn)
				if i != 0xff {
					wantKind(t, body+c, check, api.Torn)
				}
			}
			wantKind(t, s+s[2:], check, api.Torn)
		}
	}
}

func TestReadBlocksCutAtEveryPlace(t *testing.T) {
	for _, b := range everyShape() {
		for _, check := range checks {
			s := encodeByDocument(b, check)
			for n := 0; n < len(s); n++ {
				want := api.Torn
				if n <= 2 || n == 3 && s[2] == 0x10 {
					want = api.Silence
				}
				wantKind(t, s[:n], check, want)
			}
		}
	}
}

func TestReadLengthOfAHead(t *testing.T) {
	for _, check := range checks {
		for n := 0; n <= 300; n++ {
			head := strings.Repeat("h", n)
			plain := checked(check, "\x01"+head+"\x02A\x17")
			coded := checked(check, "\x01"+head+"\x10\x02A\x10\x17")
			if n >= 1 && n <= 8 {
				wantData(t, plain, check, api.Block{Head: head, Parts: []string{"A"}})
				wantData(t, coded, check, api.Block{Head: head, Parts: []string{"A"}, Clear: true})
			} else {
				wantKind(t, plain, check, api.Torn)
				wantKind(t, coded, check, api.Torn)
			}
		}
	}
}

// A DLE that is written twice counts as one byte towards the bound.
func TestReadLengthOfAPart(t *testing.T) {
	for _, check := range checks {
		for n := 0; n <= 300; n++ {
			text, dles := strings.Repeat("a", n), strings.Repeat("\x10", n)
			plain := checked(check, "\x02"+text+"\x03")
			behind := checked(check, "\x02\x1f", text+"\x1f", "b\x17")
			coded := checked(check, "\x10\x02b\x10\x1f", dles+dles+"\x10\x03")
			if n <= 32 {
				wantData(t, plain, check, api.Block{Parts: []string{text}, Last: true})
				wantData(t, behind, check, api.Block{Parts: []string{"", text, "b"}})
				wantData(t, coded, check, api.Block{Parts: []string{"b", dles}, Clear: true, Last: true})
			} else {
				wantKind(t, plain, check, api.Torn)
				wantKind(t, behind, check, api.Torn)
				wantKind(t, coded, check, api.Torn)
			}
		}
	}
}

func TestReadNumberOfParts(t *testing.T) {
	for _, check := range checks {
		for n := 1; n <= 300; n++ {
			for _, text := range []string{"", "A"} {
				for _, dle := range []string{"", "\x10"} {
					pieces, parts := make([]string, n), make([]string, n)
					for i := range pieces {
						pieces[i], parts[i] = text+dle+"\x1f", text
					}
					pieces[n-1] = text + dle + "\x03"
					pieces[0] = dle + "\x02" + pieces[0]
					s := checked(check, pieces...)
					if n <= 4 {
						wantData(t, s, check, api.Block{Parts: parts, Clear: dle != "", Last: true})
					} else {
						wantKind(t, s, check, api.Torn)
					}
				}
			}
		}
	}
}

func TestReadControlCharactersWhereNoneMayStand(t *testing.T) {
	for _, check := range checks {
		for i := 0; i < 256; i++ {
			c := string([]byte{byte(i)})
			for _, pieces := range [][]string{
				{"\x01a" + c + "b\x02A\x03"},
				{"\x01" + c + "\x10\x02A\x10\x03"},
				{"\x02a" + c + "b\x03"},
				{"\x02" + c + "\x17"},
				{"\x02a\x1f", c + "b\x1f", "c\x03"},
				{"\x02a\x1f", "b" + c + "\x03"},
			} {
				want := api.Data
				if isOneOf(byte(i), controls) {
					want = api.Torn
				}
				got, e := frame.Read(checked(check, pieces...), check)
				if got.Kind != want || e != api.OK {
					t.Errorf("P6: Read of %+q with checks %d = %+v, %d, want kind %d", pieces, check, got, e, want)
				}
			}
		}
	}
}

func TestReadEndsOfAPart(t *testing.T) {
	for _, check := range checks {
		for i := 0; i < 256; i++ {
			c := string([]byte{byte(i)})
			for _, in := range []struct{ plain, coded string }{
				{checked(check, "\x02A"+c), checked(check, "\x10\x02A\x10"+c)},
				{checked(check, "\x02\x1f", "A"+c), checked(check, "\x10\x02\x10\x1f", "A\x10"+c)},
				{checked(check, "\x01H\x02"+c), checked(check, "\x01H\x10\x02\x10"+c)},
			} {
				want := api.Torn
				if i == 0x03 || i == 0x17 {
					want = api.Data
				}
				for _, s := range []string{in.plain, in.coded} {
					got, e := frame.Read(s, check)
					if got.Kind != want || got.Block.Last != (i == 0x03) || e != api.OK {
						t.Errorf("P6: Read(% x, %d) = %+v, %d, want kind %d", s, check, got, e, want)
					}
				}
			}
		}
	}
}

func TestReadClearBlocksThatAreNone(t *testing.T) {
	for _, check := range checks {
		for i := 0; i < 256; i++ {
			c := string([]byte{byte(i)})
			switch i {
			case 0x10:
				b := api.Block{Parts: []string{"a\x10b"}, Clear: true, Last: true}
				wantData(t, checked(check, "\x10\x02a\x10"+c+"b\x10\x03"), check, b)
			case 0x02:
				wantData(t, checked(check, "\x01H\x10"+c+"A\x10\x03"), check, api.Block{Head: "H", Parts: []string{"A"}, Clear: true, Last: true})
				wantKind(t, checked(check, "\x10\x02a\x10"+c+"b\x10\x03"), check, api.Torn)
			default:
				wantKind(t, checked(check, "\x10\x02a\x10"+c+"b\x10\x03"), check, api.Torn)
				wantKind(t, checked(check, "\x01H\x10"+c+"A\x10\x03"), check, api.Torn)
			}
		}
		for _, pieces := range [][]string{
			{"\x10\x02A\x03"}, {"\x10\x02A\x17"}, {"\x10\x02A\x10\x1f", "B\x03"},
			{"\x10\x02A\x10\x10\x03"}, {"\x10\x02\x10"}, {"\x10\x02"}, {"\x10\x02A\x10\x1f"}, {"\x10\x02A\x10\x1f", ""},
			{"\x02A\x10\x03"}, {"\x02A\x1f", "B\x10\x03"}, {"\x02A\x1f"}, {"\x02A\x1f", ""}, {"\x02"}, {"\x02A"},
			{"\x01"}, {"\x01H"}, {"\x01H\x03"}, {"\x01HA\x10\x03"}, {"\x01\x02A\x03"}, {"\x01\x10\x02A\x10\x03"},
			{"\x01H\x01I\x02A\x03"}, {"\x02A\x1f", "\x02B\x03"}, {"\x10\x02\x10\x1f", "\x10\x02B\x10\x03"}, {"\x01H\x10\x10\x02A\x10\x03"},
			{"\x02A\x1f", "\x1f"}, {"\x02A\x03", "B\x03"}, {"\x02A\x17", "B\x03"}, {"\x02\x1f", "\x1f", "\x1f", "\x1f"},
		} {
			wantKind(t, checked(check, pieces...), check, api.Torn)
		}
	}
}

func TestReadShortTransmissions(t *testing.T) {
	for _, check := range checks {
		for kind, s := range shorts {
			s = raw(t, s)
			wantKind(t, s, check, kind)
			made, _ := frame.Short(kind)
			wantKind(t, made, check, kind)
			for n := 0; n < len(s); n++ {
				wantKind(t, s[:n], check, api.Silence)
			}
			for i := 0; i < 256; i++ {
				c := string([]byte{byte(i)})
				wantKind(t, s+c, check, api.Silence)
				wantKind(t, s+s[2:]+c, check, api.Silence)
				if i != 0xff {
					wantKind(t, s[:len(s)-1]+c, check, api.Silence)
				}
				if kind != api.End || i != 0x05 {
					wantKind(t, s[:len(s)-1]+c+"\xff", check, api.Silence)
				}
			}
		}
	}
}

// All rests of one and two bytes, with and without a PAD behind them, and what
// each of them is by P4 and P6.
func TestReadEveryShortRest(t *testing.T) {
	known := map[string]int{"\x05\xff": api.Ask, "\x04\xff": api.End, "\x15\xff": api.No, "\x04\x05\xff": api.Bid, "\x10\x30\xff": api.Yes0, "\x10\x31\xff": api.Yes1, "\x10\x3b\xff": api.Later}
	for i := 0; i < 256; i++ {
		for j := 0; j < 256; j++ {
			for _, rest := range []string{string([]byte{byte(i)}), string([]byte{byte(i), byte(j)}), string([]byte{byte(i), byte(j), 0xff}), string([]byte{byte(i), byte(j), 0xff, 0xff})} {
				want := known[rest]
				if i == 0x01 || i == 0x02 || i == 0x10 && j == 0x02 && len(rest) > 1 {
					want = api.Torn
				}
				if i == 0x16 {
					want = known[rest[1:]]
					if len(rest) > 1 && (j == 0x01 || j == 0x02) {
						want = api.Torn
					}
				}
				wantKind(t, "\x16\x16"+rest, i%2, want)
			}
		}
	}
}

func TestReadDleWithoutStx(t *testing.T) {
	for _, check := range checks {
		for i := 0; i < 256; i++ {
			c := string([]byte{byte(i)})
			for _, behind := range []string{"", "\xff", "\xff\xff", "\xfe", "A\xff", "0\xff", "\x02A\x10\x03" + sumByDocument("\x10\x02A\x10\x03", check) + "\xff", "A\x10\x03" + sumByDocument("\x10"+c+"A\x10\x03", check) + "\xff"} {
				want := api.Silence
				switch {
				case i == 0x02:
					continue
				case behind == "\xff" && i == 0x30:
					want = api.Yes0
				case behind == "\xff" && i == 0x31:
					want = api.Yes1
				case behind == "\xff" && i == 0x3b:
					want = api.Later
				}
				wantKind(t, "\x16\x16\x10"+c+behind, check, want)
			}
		}
		wantKind(t, "\x16\x16\x10", check, api.Silence)
		wantKind(t, "\x16\x16\x10\x02", check, api.Torn)
	}
}

func TestReadOfNoCheck(t *testing.T) {
	for _, check := range noChecks {
		for _, s := range []string{"", "\x16\x16\x05\xff", "\x16\x16\x02A\x03\x40\xff", "\x16\x16\x02", "x", everyByte()} {
			got, e := frame.Read(s, check)
			if !reflect.DeepEqual(got, api.Heard{}) || e != api.ErrCheck {
				t.Errorf("P6, P3, P1: Read(% x, %d) = %+v, %d, want nothing and ErrCheck", s, check, got, e)
			}
		}
	}
}

// wantAsByDocument keeps its failures few: it is called very often.
func wantAsByDocument(t *testing.T, s string, check int) {
	t.Helper()
	want := readByDocument(s, check)
	got, e := frame.Read(s, check)
	if !reflect.DeepEqual(got, want) || e != api.OK {
		t.Fatalf("P6: Read(% x, %d) = %+v, %d, want %+v", s, check, got, e, want)
	}
}

func TestReadEveryChangeOfOneByte(t *testing.T) {
	for _, check := range checks {
		for _, s := range []string{
			encodeByDocument(api.Block{Parts: []string{"A"}, Last: true}, check),
			encodeByDocument(api.Block{Head: "Hd", Parts: []string{"AB", "", "C"}}, check),
			encodeByDocument(api.Block{Head: "H", Parts: []string{"\x10\x03", "\x16\x16\x05\xff"}, Clear: true}, check),
			encodeByDocument(api.Block{Parts: []string{"", "\x10", "\x1f", "\x10\x10"}, Clear: true, Last: true}, check),
			"\x16\x16\x04\x05\xff", "\x16\x16\x10\x3b\xff",
		} {
			for place := 0; place <= len(s); place++ {
				for i := 0; i < 256; i++ {
					c := string([]byte{byte(i)})
					wantAsByDocument(t, s[:place]+c+s[place:], check)
					if place < len(s) {
						wantAsByDocument(t, s[:place]+c+s[place+1:], check)
					}
				}
				if place < len(s) {
					wantAsByDocument(t, s[:place]+s[place+1:], check)
					wantAsByDocument(t, s[place:], check)
				}
			}
		}
	}
}

// Every string of up to six of the bytes that matter, behind two SYN.
func TestReadEveryShortMix(t *testing.T) {
	letters := "\x01\x02\x03\x10\x16\x17\x1f\x41\xff"
	mixes := []string{""}
	for n := 0; n < 6; n++ {
		var longer []string
		for _, mix := range mixes {
			for i := range letters {
				longer = append(longer, mix+letters[i:i+1])
			}
		}
		mixes = longer
		for i, mix := range mixes {
			wantAsByDocument(t, "\x16\x16"+mix, i%2)
			wantAsByDocument(t, "\x16\x16\x02"+mix+sumByDocument("\x02"+mix, api.Xor)+"\xff", api.Xor)
			wantAsByDocument(t, "\x16\x16\x10\x02"+mix+sumByDocument("\x10\x02"+mix, api.Xor)+"\xff", api.Xor)
		}
	}
}

// P1: no string and no check makes Read panic, nor keeps it for long.
func TestReadDrawnStrings(t *testing.T) {
	r := rand.New(rand.NewSource(6))
	letters := "\x01\x02\x03\x04\x05\x10\x15\x16\x17\x1f\xff\x00A0"
	for range 200000 {
		b := make([]byte, r.Intn(40))
		for i := range b {
			b[i] = letters[r.Intn(len(letters))]
		}
		s := string(b)
		if r.Intn(2) == 0 {
			s = "\x16\x16" + s
		}
		wantAsByDocument(t, s, r.Intn(2))
		frame.Read(s, int(r.Uint64()))
	}
}

func TestReadLongStrings(t *testing.T) {
	for _, check := range checks {
		for _, unit := range []string{"\x16", "\x01", "\x02", "\x10", "\x10\x10", "\x10\x1f", "\x1f", "A", "\xff", "\x16\x05", everyByte()} {
			long := strings.Repeat(unit, 200000/len(unit))
			for _, start := range []string{"", "\x16\x16", "\x16\x16\x01", "\x16\x16\x02", "\x16\x16\x10\x02", "\x16\x16\x01H\x02", "\x16\x16\x01H\x10\x02"} {
				wantAsByDocument(t, start+long, check)
			}
		}
	}
}

// P2: the list of parts is the caller's, with its spare room.
func TestReadAnswersFreshLists(t *testing.T) {
	for _, check := range checks {
		for n := 1; n <= 4; n++ {
			b := api.Block{Head: "H"}
			for i := 0; i < n; i++ {
				b.Parts = append(b.Parts, fmt.Sprint("part", i))
			}
			s := encodeByDocument(b, check)
			kept, _ := frame.Read(s, check)
			written, _ := frame.Read(s, check)
			room := written.Block.Parts[:cap(written.Block.Parts)]
			for i := range room {
				room[i] = "written over"
			}
			_ = append(written.Block.Parts, "more")
			if !reflect.DeepEqual(kept.Block, b) {
				t.Errorf("P2: an answer has become %+v, was %+v", kept.Block, b)
			}
			wantData(t, s, check, b)
		}
	}
}

// P2: what is heard depends on the arguments alone, not on the calls between.
func TestReadDoesNotDependOnEarlierCalls(t *testing.T) {
	b := api.Block{Head: "H", Parts: []string{"A", "B"}}
	for range 3 {
		wantData(t, encodeByDocument(b, api.Xor), api.Xor, b)
		wantKind(t, "\x16\x16\x01Other\x02", api.Cyclic, api.Torn)
		wantKind(t, "\x16\x16\x04\x05\xff", api.Cyclic, api.Bid)
		frame.Read("\x16\x16\x02", -1)
		wantKind(t, "", api.Xor, api.Silence)
	}
}
