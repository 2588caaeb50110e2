package frame_test

import (
	"math"
	"testing"

	"duplex/api"
	"duplex/frame"
)

var shorts = map[int]string{
	3: "16 16 04 05 ff",
	4: "16 16 05 ff",
	5: "16 16 04 ff",
	6: "16 16 15 ff",
	7: "16 16 10 30 ff",
	8: "16 16 10 31 ff",
	9: "16 16 10 3b ff",
}

func TestShortByNumber(t *testing.T) {
	for kind := -1000; kind <= 1000; kind++ {
		want, ok := shorts[kind]
		wantError := api.OK
		if !ok {
			wantError = api.ErrKind
		}
		got, e := frame.Short(kind)
		if got != raw(t, want) || e != wantError {
			t.Errorf("P4, P1: Short(%d) = % x, %d, want %q, %d", kind, got, e, want, wantError)
		}
	}
}

func TestShortByName(t *testing.T) {
	for i, kind := range []int{api.Bid, api.Ask, api.End, api.No, api.Yes0, api.Yes1, api.Later} {
		got, e := frame.Short(kind)
		if got != raw(t, shorts[i+3]) || e != api.OK {
			t.Errorf("P4: Short(%d) = % x, %d", kind, got, e)
		}
	}
	for _, kind := range []int{api.Silence, api.Torn, api.Data} {
		got, e := frame.Short(kind)
		if got != "" || e != api.ErrKind {
			t.Errorf("P4, P1: Short(%d) = % x, %d, want nothing and ErrKind", kind, got, e)
		}
	}
}

// Numbers whose low bits are those of a kind are no kinds either.
func TestShortOfGreatNumbers(t *testing.T) {
	kinds := []int{math.MaxInt, math.MinInt, math.MaxInt - 1, math.MinInt + 1}
	for bit := 8; bit < 63; bit++ {
		for low := 0; low <= 10; low++ {
			kinds = append(kinds, 1<<bit+low, -1<<bit+low)
		}
	}
	for low := 0; low <= 10; low++ {
		kinds = append(kinds, math.MinInt+low)
	}
	for _, kind := range kinds {
		got, e := frame.Short(kind)
		if got != "" || e != api.ErrKind {
			t.Errorf("P4, P1: Short(%d) = % x, %d, want nothing and ErrKind", kind, got, e)
		}
	}
}
