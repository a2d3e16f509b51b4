package piccolo_test

// P4 and P5: frames, their heads, sums, numbers and modes.

import (
	"slices"
	"strings"
	"testing"

	"piccolo/api"
	"piccolo/bits"
	"piccolo/piccolo"
)

func TestExampleFrame(t *testing.T) {
	f := seal("\xff\xf8\x70\x00\x00\x00\x0f", "\x00\x05")
	if len(f) != 12 || f != fives() {
		t.Fatalf("the example is %x", f)
	}
	wantSound(t, "the example", stream(plainInfo(16, 1, 8, 16), f), all(16, 5))
}

// alikes is frames of one channel of 8 bits: of each its number of samples, which are all its own number.
func alikes(counts ...int) []string {
	l := make([]string, len(counts))
	for i, n := range counts {
		l[i] = frame(0, i, n, "0 000000 0", field(i, 8))
	}
	return l
}

func TestManyFrames(t *testing.T) {
	want := func(n int) []int { return made(n, func(i int) int { return i / 16 }) }
	wantSound(t, "no frame", stream(plainInfo(16, 1, 8, 0)), nil)
	wantSound(t, "no frame of two channels", stream(plainInfo(16, 2, 8, 0)), nil, nil)
	wantSound(t, "one of one sample", stream(plainInfo(16, 1, 8, 1), alikes(1)...), want(1))
	wantSound(t, "a short last one", stream(plainInfo(16, 1, 8, 33), alikes(16, 16, 1)...), want(33))
	wantSound(t, "one less", stream(plainInfo(16, 1, 8, 31), alikes(16, 15)...), want(31))
	wantSound(t, "75 frames", stream(plainInfo(16, 1, 8, 1200), alikes(all(75, 16)...)...), want(1200))
	wantSound(t, "a frame of 256", stream(plainInfo(256, 1, 8, 256), alikes(256)...), all(256, 0))
	wantSound(t, "1200 in five", stream(plainInfo(256, 1, 8, 1200), alikes(256, 256, 256, 256, 176)...), made(1200, func(i int) int { return i / 256 }))
}

func TestTooManySamples(t *testing.T) {
	wantError(t, "1201 in 76", stream(plainInfo(16, 1, 8, 1200), alikes(append(all(75, 16), 1)...)...), api.ErrFrame, 75)
	wantError(t, "1201 in five", stream(plainInfo(256, 1, 8, 1200), alikes(256, 256, 256, 256, 177)...), api.ErrFrame, 4)
	wantError(t, "1208 in eight", stream(plainInfo(151, 1, 8, 1200), alikes(all(8, 151)...)...), api.ErrFrame, 7)
}

func TestFramesOfOtherCounts(t *testing.T) {
	wantError(t, "17 of 16", stream(plainInfo(16, 1, 8, 17), alikes(17)...), api.ErrFrame, 0)
	wantError(t, "65536 of 256", stream(plainInfo(256, 1, 8, 256), alikes(65536)...), api.ErrFrame, 0)
	wantError(t, "behind a short one", stream(plainInfo(16, 1, 8, 31), alikes(15, 16)...), api.ErrFrame, 1)
	wantError(t, "behind a short one, short", stream(plainInfo(16, 1, 8, 16), alikes(8, 8)...), api.ErrFrame, 1)
	wantError(t, "a byte behind a short one", stream(plainInfo(16, 1, 8, 24), alikes(16, 8)...)+"\x00", api.ErrFrame, 2)
	wantError(t, "a byte behind a full one", stream(plainInfo(16, 1, 8, 32), alikes(16, 16)...)+"\xff", api.ErrFrame, 2)
	wantError(t, "a frame too long behind a good one", stream(plainInfo(16, 1, 8, 33), alikes(16, 17)...), api.ErrFrame, 1)
}

func TestOtherTotals(t *testing.T) {
	for _, total := range []int{0, 1, 15, 23, 25, 32, 1200} {
		wantError(t, "24 samples", stream(plainInfo(16, 1, 8, total), alikes(16, 8)...), api.ErrTotal, 0)
	}
	wantError(t, "none", stream(plainInfo(16, 1, 8, 1)), api.ErrTotal, 0)
}

func TestFrameNumbers(t *testing.T) {
	l := alikes(all(6, 16)...)
	i := plainInfo(16, 1, 8, 96)
	wantError(t, "two changed", stream(i, l[0], l[2], l[1], l[3], l[4], l[5]), api.ErrFrame, 1)
	wantError(t, "one twice", stream(i, l[0], l[1], l[2], l[2], l[4], l[5]), api.ErrFrame, 3)
	wantError(t, "from 1 on", stream(i, l[1:]...), api.ErrFrame, 0)
	for k := range l {
		bad := slices.Clone(l)
		bad[k] = flip(bad[k], 8*len(bad[k])-1)
		wantError(t, "one wrong", stream(i, bad...), api.ErrFrame, k)
		bad[5] = "\xff"
		wantError(t, "it and the last one wrong", stream(i, bad...), api.ErrFrame, k)
	}
}

// flip is a text with a bit changed.
func flip(s string, bit int) string {
	l := []byte(s)
	l[bit/8] ^= 0x80 >> (bit % 8)
	return string(l)
}

func TestHeadsBitByBit(t *testing.T) {
	body := pack("0 000001 0", listOf(8, made(16, func(i int) int { return 7*i - 60 })...))
	good := frameHead(0, 0, 16)
	wantSound(t, "as it is", stream(plainInfo(16, 1, 8, 16), seal(good, body)), made(16, func(i int) int { return 7*i - 60 }))
	for bit := range 8 * len(good) {
		wantError(t, "a bit of the head, the sums right", stream(plainInfo(16, 1, 8, 16), seal(flip(good, bit), body)), api.ErrFrame, 0)
	}
}

func TestSumsOfFrames(t *testing.T) {
	i := plainInfo(16, 1, 8, 16)
	f := fives()
	for bit := range 8 * len(f) {
		wantError(t, "a bit of the frame", stream(i, flip(f, bit)), api.ErrFrame, 0)
	}
	head := frameHead(0, 0, 16)
	wrong := head + pack(field(bits.Crc8(head)^1, 8), "0 000000 0", field(5, 8))
	wantError(t, "the head's sum alone", stream(i, wrong+pack(field(bits.Crc16(wrong), 16))), api.ErrFrame, 0)
}

func TestPadding(t *testing.T) {
	// 4 bits of a sample, and 4 up to the byte's end.
	i := plainInfo(16, 1, 4, 16)
	wantSound(t, "bits 0", stream(i, frame(0, 0, 16, "0 000000 0", "0011", "0000")), all(16, 3))
	for _, pad := range []string{"1000", "0100", "0010", "0001", "1111"} {
		wantError(t, "a bit 1", stream(i, frame(0, 0, 16, "0 000000 0", "0011", pad)), api.ErrFrame, 0)
	}
	wantError(t, "a byte more", stream(i, frame(0, 0, 16, "0 000000 0", "0011", "0000 00000000")), api.ErrFrame, 0)
}

func TestModes(t *testing.T) {
	for mode := range 16 {
		alone := stream(plainInfo(16, 1, 8, 1), frame(mode, 0, 1, "0 000000 0", field(0, 8)))
		if mode == 0 {
			wantSound(t, "one channel", alone, []int{0})
		} else {
			wantError(t, "one channel", alone, api.ErrFrame, 0)
		}
		switch two := pair(mode, 0, 8, 0, 8); mode {
		case 1:
			wantSound(t, "two channels", two, []int{0}, []int{0})
		case 8, 9, 10:
		default:
			wantError(t, "two channels", two, api.ErrFrame, 0)
		}
	}
	wantError(t, "two channels of a stream of one", stream(plainInfo(16, 1, 8, 1), pair(1, 1, 8, 2, 8)[42:]), api.ErrFrame, 0)
	wantError(t, "one channel of a stream of two", stream(plainInfo(16, 2, 8, 1), frame(0, 0, 1, "0 000000 0", field(1, 8))), api.ErrFrame, 0)
}

func TestEveryPairInEveryMode(t *testing.T) {
	l := []int{-128, -127, -65, -64, -2, -1, 0, 1, 2, 63, 64, 126, 127}
	for _, a := range l {
		for _, b := range l {
			side := a - b
			middle := (a + b) >> 1
			wantSound(t, "0001", pair(1, a, 8, b, 8), []int{a}, []int{b})
			wantSound(t, "1000", pair(8, a, 8, side, 9), []int{a}, []int{b})
			wantSound(t, "1001", pair(9, side, 9, b, 8), []int{a}, []int{b})
			wantSound(t, "1010", pair(10, middle, 8, side, 9), []int{a}, []int{b})
		}
	}
}

func TestPairsThatAreTooGreat(t *testing.T) {
	for _, c := range []struct{ mode, a, aBits, b, bBits int }{
		{8, 0, 8, -128, 9}, {8, 0, 8, 129, 9}, {8, 127, 8, -1, 9}, {8, -128, 8, 1, 9}, {8, -128, 8, -256, 9},
		{9, 128, 9, 0, 8}, {9, -129, 9, 0, 8}, {9, 1, 9, 127, 8}, {9, -1, 9, -128, 8}, {9, -256, 9, 127, 8},
		{10, 127, 8, 1, 9}, {10, 127, 8, -1, 9}, {10, -128, 8, 2, 9}, {10, -128, 8, -2, 9}, {10, 0, 8, -256, 9}, {10, 0, 8, 255, 9}, {10, 0, 8, -255, 9},
	} {
		wantError(t, "a pair", pair(c.mode, c.a, c.aBits, c.b, c.bBits), api.ErrFrame, 0)
	}
}

func TestWrongSecondSubframe(t *testing.T) {
	good := frame(1, 0, 16, "0 000000 0", field(5, 8), "0 000000 0", field(6, 8))
	bad := frame(1, 1, 16, "0 000000 0", field(5, 8), "0 000010 0", field(6, 8))
	wantError(t, "of the second frame", stream(plainInfo(16, 2, 8, 32), good, bad), api.ErrFrame, 1)
	lone := frame(1, 0, 16, "0 000000 0", field(5, 8))
	wantError(t, "missing", stream(plainInfo(16, 2, 8, 16), lone), api.ErrFrame, 0)
	third := frame(1, 0, 16, strings.Repeat("0 000000 0 00000101", 3))
	wantError(t, "and a third", stream(plainInfo(16, 2, 8, 16), third), api.ErrFrame, 0)
}

func TestRateChangesNothingElse(t *testing.T) {
	for _, rate := range []int{1, 2, 44100, 655350} {
		s, e, at := piccolo.Decode(stream(info{16, 16, rate, 1, 8, 16}, fives()))
		if e != api.OK || at != 0 || !sameSound(s, api.Sound{Rate: rate, Bits: 8, Channels: [][]int{all(16, 5)}}) {
			t.Errorf("P4: rate %d: Decode = %v, %d, %d", rate, s, e, at)
		}
	}
}
