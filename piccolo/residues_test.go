package piccolo_test

// P4: residues of both methods, of several parts.

import (
	"strings"
	"testing"

	"piccolo/api"
)

// bare is a stream of one frame of n samples of 8 bits that are the residue itself: a fixed predictor of the order 0.
func bare(n int, residue ...string) string {
	return one(n, "0 001000 0", strings.Join(residue, ""))
}

func TestSigns(t *testing.T) {
	for u, want := range []int{0, -1, 1, -2, 2, -3, 3, -4} {
		wantSound(t, "k 0", bare(1, "00 0000 0000", strings.Repeat("0", u), "1"), []int{want})
		wantSound(t, "k 1", bare(1, "00 0000 0001", strings.Repeat("0", u/2), "1", field(u%2, 1)), []int{want})
		wantSound(t, "k 14", bare(1, "00 0000 1110", "1", field(u, 14)), []int{want})
		wantSound(t, "five bits, k 0", bare(1, "01 0000 00000", strings.Repeat("0", u), "1"), []int{want})
		wantSound(t, "five bits, k 15", bare(1, "01 0000 01111", "1", field(u, 15)), []int{want})
		wantSound(t, "five bits, k 30", bare(1, "01 0000 11110", "1", field(u, 30)), []int{want})
	}
	wantSound(t, "the greatest", bare(2, "00 0000 0101", strings.Repeat("0", 7)+"1"+field(30, 5), strings.Repeat("0", 7)+"1"+field(31, 5)), []int{127, -128})
	wantError(t, "too great", bare(1, "00 0000 0101", strings.Repeat("0", 8)+"1"+field(0, 5)), api.ErrFrame, 0)
	wantError(t, "too small", bare(1, "00 0000 0101", strings.Repeat("0", 8)+"1"+field(1, 5)), api.ErrFrame, 0)
}

func TestMethods(t *testing.T) {
	wantSound(t, "00", bare(16, "00 0000 0000", ones(16)), all(16, 0))
	wantSound(t, "01", bare(16, "01 0000 00000", ones(16)), all(16, 0))
	for _, method := range []string{"10", "11"} {
		for kBits := 3; kBits <= 8; kBits++ {
			wantError(t, method, bare(16, method, "0000", field(0, kBits), ones(16)), api.ErrFrame, 0)
		}
	}
}

func TestAsTheyAre(t *testing.T) {
	wantSound(t, "no bits", bare(16, "00 0000 1111 00000"), all(16, 0))
	wantSound(t, "no bits, five", bare(16, "01 0000 11111 00000"), all(16, 0))
	for m := 1; m <= 31; m++ {
		l := []int{0, -1, max(-128, -1<<(m-1)), min(127, 1<<(m-1)-1)}
		wantSound(t, "bits", bare(4, "00 0000 1111", field(m, 5), listOf(m, l...)), l)
		wantSound(t, "bits, five", bare(4, "01 0000 11111", field(m, 5), listOf(m, l...)), l)
	}
	wantError(t, "too great", bare(1, "00 0000 1111 01001", field(128, 9)), api.ErrFrame, 0)
	wantError(t, "too small", bare(1, "00 0000 1111 01001", field(-129, 9)), api.ErrFrame, 0)
}

func TestParts(t *testing.T) {
	wantSound(t, "four parts, each its own way",
		bare(16, "00 0010", "0000 1 01 001 0001", "1111 00011", listOf(3, -4, 3, 0, -1), "1111 00000", "0010 100 101 110 111"),
		[]int{0, -1, 1, -2, -4, 3, 0, -1, 0, 0, 0, 0, 0, -1, 1, -2})
	wantSound(t, "two parts, five bits",
		bare(4, "01 0001", "00001 10 11", "11111 00010 10 01"), []int{0, -1, -2, 1})
	for p := 0; p <= 8; p++ {
		wantSound(t, "256 samples", bare(256, "00", field(p, 4), strings.Repeat("0000"+ones(256>>p), 1<<p)), all(256, 0))
	}
	for p := 9; p <= 15; p++ {
		wantError(t, "more parts than samples", bare(256, "00", field(p, 4), strings.Repeat("0000 1", 1<<p>>4)), api.ErrFrame, 0)
	}
	wantSound(t, "48 in 16", bare(48, "00 0100", strings.Repeat("0000 111", 16)), all(48, 0))
	wantError(t, "48 in 32", bare(48, "00 0101", strings.Repeat("0000 11", 32)), api.ErrFrame, 0)
	wantError(t, "17 in 2", bare(17, "00 0001", "0000"+ones(9)+"0000"+ones(8)), api.ErrFrame, 0)
	wantError(t, "1 in 2", bare(1, "00 0001", "0000 1 0000"), api.ErrFrame, 0)
}

func TestFirstPart(t *testing.T) {
	first := []int{1, 2, 3, 4}
	flat := func(n, p int) string {
		size := n >> p
		return one(n, "0 100011 0", listOf(8, first...), "0001 00000", listOf(2, 0, 0, 0, 1), "00", field(p, 4), "0000", ones(max(0, size-4)), strings.Repeat("0000"+ones(size), 1<<p-1))
	}
	want := made(16, func(i int) int { return i%4 + 1 })
	for p := 0; p <= 2; p++ {
		wantSound(t, "parts not below the order", flat(16, p), want)
	}
	for p := 3; p <= 4; p++ {
		wantError(t, "parts below the order", flat(16, p), api.ErrFrame, 0)
	}
	wantSound(t, "a first part of none, as they are", fixed(4, []int{7, 7}, "00 0001 1111 00101 0000 11"), []int{7, 7, 7, 7})
}

func TestResidueCutOff(t *testing.T) {
	wantError(t, "in a part's head", bare(16, "00 0001 0000", ones(8)), api.ErrFrame, 0)
	wantError(t, "in a part", bare(16, "00 0000 0000", ones(3)), api.ErrFrame, 0)
	wantError(t, "bits 0 to the end", bare(16, "00 0000 1110", strings.Repeat("0", 9000)), api.ErrFrame, 0)
	wantError(t, "as they are", bare(256, "00 0000 1111 11111", strings.Repeat("0", 99)), api.ErrFrame, 0)
}

// great is a stream of one sample more than five, of 16 bits: foretold is of the last one 2147483646 (or the opposite), and its residue is u, with a k of 30.
func great(sign int, u int) string {
	return stream(plainInfo(16, 1, 16, 6), frame(0, 0, 6, "0 100100 0", listOf(16, all(5, 32767)...), "1110 00000",
		listOf(15, 16383*sign, 16383*sign, 16383*sign, 16383*sign, 6*sign),
		"01 0000 11110", strings.Repeat("0", u>>30), "1", field(u, 30)))
}

func TestGreatResidues(t *testing.T) {
	want := func(last int) []int { return append(all(5, 32767), last) }
	wantSound(t, "2 to the 32, less 1", great(1, 1<<32-1), want(-2))
	wantSound(t, "2 to the 32, less 2", great(-1, 1<<32-2), want(1))
	wantError(t, "2 to the 32", great(-1, 1<<32), api.ErrFrame, 0)
	wantError(t, "2 to the 32 and 1", great(1, 1<<32+1), api.ErrFrame, 0)
	wantError(t, "all too great", great(1, 1<<40+1<<32-1), api.ErrFrame, 0)
	wantError(t, "as many bits 0 as a stream has", great(1, 40000<<30), api.ErrFrame, 0)
}
