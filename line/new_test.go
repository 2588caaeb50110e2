package line_test

import (
	"math"
	"math/rand"
	"testing"

	"duplex/api"
	"duplex/line"
)

// isWithinP7 has the numbers of the document, not the constants.
func isWithinP7(c api.Config) bool {
	for _, b := range [][3]int{
		{c.Check, 0, 1}, {c.Size, 1, 32}, {c.Parts, 1, 4}, {c.Queue, 1, 8}, {c.First, 3, 20}, {c.Second, 4, 20},
		{c.Reply, 3, 20}, {c.Tries, 1, 7}, {c.Waits, 0, 7},
	} {
		if b[0] < b[1] || b[0] > b[2] {
			return false
		}
	}
	return c.Second > c.First && c.Lost >= (c.Tries+2)*c.Reply+2 && c.Lost <= 255
}

func fields(c *api.Config) []*int {
	return []*int{&c.Check, &c.Size, &c.Parts, &c.Queue, &c.First, &c.Second, &c.Reply, &c.Lost, &c.Tries, &c.Waits}
}

func wantNew(t *testing.T, c api.Config) {
	t.Helper()
	x, e := line.New(c)
	if !isWithinP7(c) {
		if x != nil || e != api.ErrConfig {
			t.Errorf("P7, P1: New(%+v) = %v, %d, want nil and ErrConfig", c, x, e)
		}
		return
	}
	if x == nil || e != api.OK {
		t.Fatalf("P7: New(%+v): %d", c, e)
	}
	for st := range 2 {
		if x.Look(st) != (api.View{}) || x.OnLine(st) != "" {
			t.Errorf("P7: at first station %d is %+v and has % x on the line", st, x.Look(st), x.OnLine(st))
		}
	}
}

// The edges that the document names, in words of their own.
func TestNewAtAndBesideEveryBound(t *testing.T) {
	wide := api.Config{Check: 0, Size: 8, Parts: 2, Queue: 4, First: 10, Second: 15, Reply: 5, Lost: 100, Tries: 3, Waits: 3}
	for _, c := range []struct {
		name      string
		field     int
		ok, wrong []int
	}{
		{"Check", 0, []int{0, 1}, []int{-1, 2}},
		{"Size", 1, []int{1, 2, 31, 32}, []int{-1, 0, 33}},
		{"Parts", 2, []int{1, 2, 3, 4}, []int{-1, 0, 5}},
		{"Queue", 3, []int{1, 2, 7, 8}, []int{-1, 0, 9}},
		{"First", 4, []int{3, 4, 14}, []int{0, 2, 15, 16, 20, 21}},
		{"Second", 5, []int{11, 19, 20}, []int{3, 4, 9, 10, 21}},
		{"Reply", 6, []int{3, 4, 19}, []int{0, 2, 20, 21}},
		{"Lost", 7, []int{27, 28, 254, 255}, []int{0, 26, 256}},
		{"Tries", 8, []int{1, 2, 6, 7}, []int{-2, -1, 0, 8}},
		{"Waits", 9, []int{0, 1, 6, 7}, []int{-1, 8}},
	} {
		for _, n := range c.ok {
			d := wide
			*fields(&d)[c.field] = n
			x, e := line.New(d)
			if x == nil || e != api.OK {
				t.Errorf("P7: New with %s %d: %d", c.name, n, e)
			}
		}
		for _, n := range c.wrong {
			d := wide
			*fields(&d)[c.field] = n
			x, e := line.New(d)
			if x != nil || e != api.ErrConfig {
				t.Errorf("P7, P1: New with %s %d: %v, %d", c.name, n, x, e)
			}
		}
	}
}

func TestNewEveryPairOfBidWaits(t *testing.T) {
	for first := -1; first <= 23; first++ {
		for second := -1; second <= 23; second++ {
			c := small
			c.First, c.Second = first, second
			wantNew(t, c)
		}
	}
}

func TestNewEveryLost(t *testing.T) {
	for tries := -3; tries <= 9; tries++ {
		for reply := -3; reply <= 22; reply++ {
			for lost := -1; lost <= 258; lost++ {
				c := small
				c.Tries, c.Reply, c.Lost = tries, reply, lost
				wantNew(t, c)
			}
		}
	}
}

func TestNewOfGreatNumbers(t *testing.T) {
	great := []int{math.MaxInt, math.MaxInt - 1, math.MinInt, math.MinInt + 1, 1 << 62, -1 << 62}
	for bit := 8; bit < 63; bit++ {
		great = append(great, 1<<bit, 1<<bit+3, -1<<bit, -1<<bit+3, 1<<bit-1)
	}
	for i := range fields(&small) {
		for _, n := range great {
			c := small
			*fields(&c)[i] = n
			wantNew(t, c)
			for k := range fields(&small) {
				for _, m := range []int{math.MaxInt, math.MinInt, 1 << 32, 1 << 62, -2} {
					d := c
					*fields(&d)[k] = m
					wantNew(t, d)
				}
			}
		}
	}
	wantNew(t, api.Config{})
}

// A number beyond its bounds that makes the least Lost small again is refused.
func TestNewWhereTheLeastLostRunsOver(t *testing.T) {
	for tries := 0; tries < 64; tries++ {
		for reply := 0; reply < 64; reply++ {
			for _, lost := range []int{0, 2, 11, 255} {
				c := small
				c.Tries, c.Reply, c.Lost = 1<<tries-2, 1<<reply, lost
				wantNew(t, c)
				c.Tries, c.Reply = -2, 3
				wantNew(t, c)
			}
		}
	}
}

func TestNewDrawn(t *testing.T) {
	r := rand.New(rand.NewSource(7))
	good := 0
	for range 200000 {
		c := drawnConfig(r)
		for range r.Intn(3) {
			*fields(&c)[r.Intn(10)] += r.Intn(5) - 2
		}
		if isWithinP7(c) {
			good++
		}
		wantNew(t, c)
	}
	if good < 50000 || good > 190000 {
		t.Errorf("%d of the drawn configurations are within the bounds", good)
	}
}

func drawnConfig(r *rand.Rand) api.Config {
	c := api.Config{Check: r.Intn(2), Size: 1 + r.Intn(32), Parts: 1 + r.Intn(4), Queue: 1 + r.Intn(8), First: 3 + r.Intn(17), Reply: 3 + r.Intn(18), Tries: 1 + r.Intn(7), Waits: r.Intn(8)}
	c.Second = c.First + 1 + r.Intn(20-c.First)
	least := (c.Tries+2)*c.Reply + 2
	c.Lost = least + r.Intn(256-least)
	return c
}
