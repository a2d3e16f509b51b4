package piccolo_test

// P1: which of several errors is answered. P2: new memory, and the same again.

import (
	"slices"
	"strings"
	"testing"

	"piccolo/api"
	"piccolo/piccolo"
)

func TestFirstErrorNamed(t *testing.T) {
	wrongInfo := info{16, 17, 1, 1, 8, 16}
	wrongFrame := flip(fives(), 90)
	long := strings.Repeat("\x00", api.MaxStream)
	wantError(t, "long, wrong blocks", stream(wrongInfo, fives())+long, api.ErrLong, 0)
	wantError(t, "long, a wrong frame, another total", stream(plainInfo(16, 1, 8, 3), wrongFrame)+long, api.ErrLong, 0)
	wantError(t, "wrong blocks, a wrong frame", stream(wrongInfo, wrongFrame), api.ErrMeta, 0)
	wantError(t, "wrong blocks, another total", stream(info{16, 16, 0, 1, 8, 3}, fives()), api.ErrMeta, 0)
	wantError(t, "a wrong frame, another total", stream(plainInfo(16, 1, 8, 3), wrongFrame), api.ErrFrame, 0)
	wantError(t, "a wrong second frame, another total", stream(plainInfo(16, 1, 8, 3), fives(), wrongFrame), api.ErrFrame, 1)
	wantError(t, "a wrong second frame, the total of the first", stream(plainInfo(16, 1, 8, 16), fives(), wrongFrame), api.ErrFrame, 1)
	wantError(t, "a wrong frame, a short one, bytes behind", stream(plainInfo(16, 1, 8, 24), wrongFrame, frame(0, 1, 8, "0 000000 0", field(5, 8)))+"x", api.ErrFrame, 0)
}

func TestPlaceIsZeroAgain(t *testing.T) {
	for range 2 {
		wantError(t, "a wrong second frame", stream(plainInfo(16, 1, 8, 16), fives(), "x"), api.ErrFrame, 1)
		wantSound(t, "a good stream", stream(plainInfo(16, 1, 8, 16), fives()), all(16, 5))
		wantError(t, "another total", stream(plainInfo(16, 1, 8, 17), fives()), api.ErrTotal, 0)
		wantError(t, "no blocks", "x", api.ErrMeta, 0)
	}
}

// scribble writes over a list of lists, and over what room there is behind each.
func scribble(channels [][]int) {
	for _, l := range channels {
		l = l[:cap(l)]
		for i := range l {
			l[i] = 9999
		}
	}
	spare := channels[:cap(channels)]
	for i := range spare {
		spare[i] = nil
	}
}

func TestNewMemory(t *testing.T) {
	var d dice = 6
	for range 100 {
		c := throw(&d)
		text := c.text()
		if len(text) > api.MaxStream {
			continue
		}
		want := api.Sound{Rate: c.info.rate, Bits: c.info.bits, Channels: c.want}
		a, _, _ := piccolo.Decode(text)
		b, _, _ := piccolo.Decode(text)
		scribble(a.Channels)
		if !sameSound(b, want) {
			t.Fatal("P2: two answers share memory")
		}
		again, e, _ := piccolo.Decode(text)
		if e != api.OK || !sameSound(again, want) {
			t.Fatalf("P2: the same again: %v, %d", again, e)
		}
	}
}

func TestChannelsShareNothing(t *testing.T) {
	sub := "0 000000 0"
	text := stream(plainInfo(16, 2, 8, 24),
		frame(1, 0, 16, sub, field(5, 8), sub, field(5, 8)), frame(10, 1, 8, sub, field(5, 8), sub, field(0, 9)))
	s, _, _ := piccolo.Decode(text)
	scribble(s.Channels[:1:1])
	if len(s.Channels) != 2 || !slices.Equal(s.Channels[1], all(24, 5)) {
		t.Errorf("P2: the channels share memory: %v", s.Channels)
	}
	s, _, _ = piccolo.Decode(text)
	second := slices.Clone(s.Channels[1])
	first := s.Channels[0]
	for range 50 {
		first = append(first, 77)
	}
	if !slices.Equal(s.Channels[1], second) {
		t.Errorf("P2: behind the first channel lies the second: %v", s.Channels[1])
	}
}
