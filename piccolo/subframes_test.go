package piccolo_test

// P4: subframes of each kind.

import (
	"strings"
	"testing"

	"piccolo/api"
)

// onePart is the head of a residue of one part with a k of 0.
const onePart = "00 0000 0000"

func TestAlike(t *testing.T) {
	for _, v := range []int{-128, -1, 0, 1, 127} {
		wantSound(t, "alike", one(16, "0 000000 0", field(v, 8)), all(16, v))
		wantSound(t, "one alike", one(1, "0 000000 0", field(v, 8)), []int{v})
	}
	wantSound(t, "256 alike", one(256, "0 000000 0", field(-3, 8)), all(256, -3))
}

func TestPlain(t *testing.T) {
	up := made(256, func(i int) int { return i - 128 })
	wantSound(t, "all numbers of 8 bits", one(256, "0 000001 0", listOf(8, up...)), up)
	for bits := api.MinBits; bits <= api.MaxBits; bits++ {
		l := []int{-1 << (bits - 1), -1, 0, 1<<(bits-1) - 1}
		wantSound(t, "the edges", stream(plainInfo(16, 1, bits, 4), frame(0, 0, 4, "0 000001 0", listOf(bits, l...))), l)
	}
	wantError(t, "one too few", one(16, "0 000001 0", listOf(8, make([]int, 15)...)), api.ErrFrame, 0)
}

func TestKindsThatAreNone(t *testing.T) {
	for kind := range 64 {
		if kind <= 1 || 8 <= kind && kind <= 12 || 32 <= kind && kind <= 39 {
			continue
		}
		fixed, linear := kind%8, min(kind%32+1, 16)
		for _, body := range []string{
			field(5, 8),
			listOf(8, make([]int, 16)...),
			listOf(8, make([]int, fixed)...) + onePart + ones(16-fixed),
			listOf(8, make([]int, linear)...) + "0000 00000" + strings.Repeat("0", linear) + onePart + ones(16-linear),
		} {
			wantError(t, "a kind "+field(kind, 6), one(16, "0", field(kind, 6), "0", body), api.ErrFrame, 0)
		}
	}
	for _, kind := range []string{"000000", "000001"} {
		wantError(t, "a first bit 1", one(1, "1", kind, "0", field(5, 8)), api.ErrFrame, 0)
	}
}

func TestFewerBits(t *testing.T) {
	for less := 1; less <= 7; less++ {
		w := "1" + strings.Repeat("0", less-1) + "1"
		most := 1<<(7-less) - 1
		wantSound(t, "the least", one(16, "0 000000", w, field(-most-1, 8-less)), all(16, -128))
		wantSound(t, "the most", one(16, "0 000000", w, field(most, 8-less)), all(16, most<<less))
		wantSound(t, "plain", one(2, "0 000001", w, listOf(8-less, -1, 0)), []int{-1 << less, 0})
		wantSound(t, "fixed", one(4, "0 001001", w, field(-1, 8-less), onePart, "001 01 1"), []int{-1 << less, 0, -1 << less, -1 << less})
		wantError(t, "too great ahead of doubling", one(1, "0 001000", w, "00 0000 1111 01001", field(most+1, 9)), api.ErrFrame, 0)
		wantError(t, "too small ahead of doubling", one(1, "0 001000", w, "00 0000 1111 01001", field(-most-2, 9)), api.ErrFrame, 0)
	}
	for _, zeros := range []int{7, 8, 9, 15, 16, 63, 64, 200} {
		w := "1" + strings.Repeat("0", zeros) + "1"
		wantError(t, "no bits left", one(16, "0 000000", w, field(0, 8)), api.ErrFrame, 0)
		wantError(t, "no bits left, none there", one(16, "0 000000", w), api.ErrFrame, 0)
	}
	wantError(t, "bits 0 to the end", one(16, "0 000000 1", strings.Repeat("0", 400)), api.ErrFrame, 0)
}

func TestFewerBitsOfTheSide(t *testing.T) {
	two := func(w, side string) string {
		return stream(plainInfo(16, 2, 8, 1), frame(8, 0, 1, "0 000000 0", field(0, 8), "0 000000", w, side))
	}
	wantSound(t, "a bit of nine", two("1 00000001", "0"), []int{0}, []int{0})
	wantError(t, "a bit of nine, too small", two("1 00000001", "1"), api.ErrFrame, 0)
	wantSound(t, "three bits of nine", two("1 000001", "001"), []int{0}, []int{-64})
	wantError(t, "no bit of nine", two("1 000000001", "0"), api.ErrFrame, 0)
}

// fixed is a stream of one frame of a fixed predictor of as many first samples.
func fixed(n int, first []int, residue string) string {
	return one(n, "0", field(8+len(first), 6), "0", listOf(8, first...), residue)
}

func TestFixed(t *testing.T) {
	wantSound(t, "order 0", fixed(4, nil, "00 0000 0001 10 011 11 0010"), []int{0, -2, -1, 2})
	wantSound(t, "order 1", fixed(5, []int{100}, onePart+"001 1 01 001"), []int{100, 101, 101, 100, 101})
	wantSound(t, "order 2", fixed(6, []int{1, 3}, onePart+"1 1 01 1"), []int{1, 3, 5, 7, 8, 9})
	wantSound(t, "order 3", fixed(7, []int{0, 1, 4}, onePart+"1 1 001 1"), []int{0, 1, 4, 9, 16, 26, 39})
	wantSound(t, "order 4", fixed(6, []int{0, 1, 8, 27}, onePart+"1 01"), []int{0, 1, 8, 27, 64, 124})
	wantError(t, "order 4, too great", fixed(7, []int{0, 1, 8, 27}, onePart+"1 01 1"), api.ErrFrame, 0)
	wantError(t, "too great, and back", fixed(4, []int{127}, onePart+"001 01 1"), api.ErrFrame, 0)
	wantError(t, "too small, and back", fixed(4, []int{-128}, onePart+"01 001 1"), api.ErrFrame, 0)
	wantSound(t, "up to the edges", fixed(3, []int{127}, "00 0000 1111 01001"+listOf(9, -255, 255)), []int{127, -128, 127})
}

func TestOrderNotAboveCount(t *testing.T) {
	for n := 1; n <= 4; n++ {
		l := made(n, func(i int) int { return 9 - i })
		wantSound(t, "fixed, order n", fixed(n, l, onePart), l)
		wantError(t, "fixed, order n and 1", one(n, "0", field(8+n+1, 6), "0", listOf(8, l...), field(0, 8), onePart), api.ErrFrame, 0)
	}
	for n := 1; n <= 8; n++ {
		l := made(n, func(i int) int { return 9 - i })
		wantSound(t, "linear, order n", linear(n, l, "0000 00000", listOf(1, l...), onePart), l)
		if n < 8 {
			wantError(t, "linear, order n and 1", linear(n, append(l, 0), "0000 00000", listOf(1, append(l, 0)...), onePart), api.ErrFrame, 0)
		}
	}
	wantError(t, "fixed, order 5", fixed(16, make([]int, 5), onePart+ones(11)), api.ErrFrame, 0)
	wantError(t, "linear, order 9", linear(16, make([]int, 9), "0000 00000", listOf(1, make([]int, 9)...), onePart+ones(7)), api.ErrFrame, 0)
}

// linear is a stream of one frame of a linear predictor of as many first samples.
func linear(n int, first []int, sizes, factors, residue string) string {
	return one(n, "0", field(32+len(first)-1, 6), "0", listOf(8, first...), sizes, factors, residue)
}

func TestLinear(t *testing.T) {
	wantSound(t, "the first factor is of the last one", linear(6, []int{1, 2, 3}, "0001 00000", listOf(2, 1, 0, 0), onePart+ones(3)), []int{1, 2, 3, 3, 3, 3})
	wantSound(t, "the last factor is of the first one", linear(6, []int{1, 2, 3}, "0001 00000", listOf(2, 0, 0, 1), onePart+ones(3)), []int{1, 2, 3, 1, 2, 3})
	wantSound(t, "rounded down", linear(4, []int{7}, "0000 00001", "1", onePart+"1 001 01"), []int{7, -4, 3, -3})
	wantSound(t, "rounded down to -1", linear(4, []int{1}, "0000 01111", "1", onePart+"1 1 1"), []int{1, -1, 0, 0})
	wantSound(t, "added up, and then rounded", linear(3, []int{1, 1}, "0001 00001", listOf(2, 1, 1), onePart+"1"), []int{1, 1, 1})
	wantSound(t, "order 8", linear(9, []int{1, 2, 3, 4, 5, 6, 7, 8}, "0011 00011", listOf(4, 1, 2, 3, 4, 5, 6, 7, -8), onePart+"001"), []int{1, 2, 3, 4, 5, 6, 7, 8, 14})
	wantError(t, "too great", linear(2, []int{64}, "0010 00000", "010", onePart+"1"), api.ErrFrame, 0)
	wantError(t, "too great, later back", linear(3, []int{64}, "0010 00000", "010", onePart+"1 "+strings.Repeat("0", 511)+"1"), api.ErrFrame, 0)
}

func TestFactorBitsAndShift(t *testing.T) {
	for bits := 1; bits <= 15; bits++ {
		least := -1 << (bits - 1)
		wantSound(t, "factor bits", linear(2, []int{-1}, field(bits-1, 4)+field(bits-1, 5), field(least, bits), onePart+"1"), []int{-1, 1})
	}
	wantError(t, "16 factor bits", linear(2, []int{0}, "1111 00000", field(0, 16), onePart+"1"), api.ErrFrame, 0)
	for shift := range 16 {
		wantSound(t, "shift", linear(2, []int{64}, "1110"+field(shift, 5), field(1<<shift>>6, 15), onePart+"1"), []int{64, (64 * (1 << shift >> 6)) >> shift})
	}
	for shift := -16; shift < 0; shift++ {
		wantError(t, "shift", linear(2, []int{0}, "0000"+field(shift, 5), "0", onePart+"1"), api.ErrFrame, 0)
	}
}
