package piccolo_test

// P6: how many bytes a stream may have that Encode wrote.

import (
	"math"
	"strconv"
	"testing"

	"piccolo/api"
)

// allowed is how many bytes P6 allows for a sound and a block.
func allowed(s api.Sound, block int) int {
	sum := 42
	for at := 0; at < len(s.Channels[0]); at += block {
		n := min(block, len(s.Channels[0])-at)
		bits := 0
		for _, l := range slicesAt(s.Channels, at, n) {
			bits += fewest(l, s.Bits)
		}
		sum += 16 + (bits+7)/8
	}
	return min(sum, api.MaxStream)
}

// fewest is how many bits a subframe has by the shortest of the ways that P6 names.
func fewest(l []int, wide int) int {
	least := 8 + len(l)*wide
	if sameAs(l) {
		least = min(least, 8+wide)
	}
	for order := range min(4, len(l)) + 1 {
		least = min(least, 8+order*wide+2+4+4+residueBits(l, order))
	}
	return least
}

func sameAs(l []int) bool {
	for _, v := range l {
		if v != l[0] {
			return false
		}
	}
	return true
}

// residueBits is those of the best k: what a fixed predictor leaves is its samples' differences, taken as often as its order says.
func residueBits(l []int, order int) int {
	for range order {
		next := make([]int, len(l)-1)
		for i := range next {
			next[i] = l[i+1] - l[i]
		}
		l = next
	}
	least := math.MaxInt
	for k := range 15 {
		bits := 0
		for _, v := range l {
			u := 2 * v
			if v < 0 {
				u = -2*v - 1
			}
			bits += u>>k + 1 + k
		}
		least = min(least, bits)
	}
	return least
}

func wantFits(t *testing.T, what string, s api.Sound, block int) {
	t.Helper()
	text := encoded(t, what, s, block)
	if most := allowed(s, block); len(text) > most {
		t.Errorf("P6: %s: %d bytes, may be %d", what, len(text), most)
	}
}

func TestSizeAllAlike(t *testing.T) {
	for _, bits := range []int{4, 9, 16} {
		for _, v := range []int{-1 << (bits - 1), -1, 0, 1, 1<<(bits-1) - 1} {
			wantFits(t, "all alike", sound(bits, all(1200, v)), 256)
			wantFits(t, "all alike of two", sound(bits, all(1200, v), all(1200, ^v)), 16)
			wantFits(t, "alike in each frame", sound(bits, append(all(64, v), all(40, 0)...)), 64)
		}
	}
}

func TestSizeAsTheyAre(t *testing.T) {
	var d dice = 11
	for bits := api.MinBits; bits <= api.MaxBits; bits++ {
		least, most := -1<<(bits-1), 1<<(bits-1)-1
		noise := func(int) int { return d.roll(1<<bits) + least }
		ends := func(int) int { return []int{least, most}[d.roll(2)] }
		for _, block := range []int{16, 17, 64, 255, 256} {
			wantFits(t, "noise", sound(bits, made(1200, noise)), block)
			wantFits(t, "noise of two", sound(bits, made(1200, noise), made(1200, noise)), block)
			wantFits(t, "the ends", sound(bits, made(1200, ends), made(1200, ends)), block)
			wantFits(t, "noise beside silence", sound(bits, made(333, noise), all(333, 0)), block)
		}
	}
}

func TestSizeMaxStream(t *testing.T) {
	var d dice = 12
	noise := func(int) int { return d.roll(1<<16) - 1<<15 }
	for block := api.MinBlock; block <= api.MaxBlock; block++ {
		s := sound(16, made(1200, noise), made(1200, noise))
		if text := encoded(t, "the most there may be", s, block); len(text) > api.MaxStream {
			t.Errorf("P6: block %d: %d bytes", block, len(text))
		}
	}
}

// TestSizeFixed has for each order samples that a predictor of that order foretells well, and any other worse by more than the bytes that a frame may have to spare.
func TestSizeFixed(t *testing.T) {
	var d dice = 13
	walk := 20000
	rules := []func(i int) int{
		func(int) int { return d.roll(17) - 8 },
		func(int) int { walk += d.roll(17) - 8; return walk },
		func(i int) int { return 100*i - 12800 + i%2*2 },
		func(i int) int { return 8*(i-90)*(i-90) - 32768 + i%2*2 },
		func(i int) int { return (i - 32) * (i - 32) * (i - 32) },
	}
	for order, rule := range rules {
		n := []int{256, 256, 256, 180, 64}[order]
		l := made(n, rule)
		for other := range 5 {
			if other != order && residueBits(l, other)+other*16 < residueBits(l, order)+order*16+64 {
				t.Errorf("the samples for the order %d do as well with %d", order, other)
			}
		}
		what := "what the order " + strconv.Itoa(order) + " foretells"
		wantFits(t, what, sound(16, l), n)
		wantFits(t, what+", beside silence", sound(16, all(n, 0), l), n)
	}
}

// TestSizeK has for each k samples for which that one is the best, by a third of a bit each or more.
func TestSizeK(t *testing.T) {
	var d dice = 14
	for k := range 15 {
		l := made(256, func(int) int {
			u := goodFor(&d, k)
			return u>>1 ^ -(u & 1)
		})
		wantFits(t, "what a k of "+strconv.Itoa(k)+" is good for", sound(16, l), 256)
	}
}

// goodFor is a number of a residue, ahead of its sign, such that many of them need fewer bits with that k than with any other.
func goodFor(d *dice, k int) int {
	switch k {
	case 0:
		return d.roll(2)
	case 1:
		return 1 + d.roll(3)
	}
	half := 1 << (k - 1)
	return half + d.roll(half) + d.roll(2)<<k
}

// TestSizeEachChannel has channels, and frames, of which each needs another way.
func TestSizeEachChannel(t *testing.T) {
	var d dice = 15
	ramp := made(600, func(i int) int { return 50*i - 15000 })
	bend := made(600, func(i int) int { return (i%200-100)*(i%200-100)*3 - 30000 })
	wild := made(600, func(int) int { return d.roll(1<<16) - 1<<15 })
	mixed := append(append(all(200, -5), ramp[:200]...), wild[:200]...)
	lists := [][]int{ramp, bend, wild, mixed, all(600, 7)}
	for _, a := range lists {
		for _, b := range lists {
			for _, block := range []int{16, 100, 200, 256} {
				wantFits(t, "two ways", sound(16, a, b), block)
			}
		}
	}
}

func TestSizeThrown(t *testing.T) {
	var d dice = 16
	for range 600 {
		bits := api.MinBits + d.roll(13)
		n := d.roll(api.MaxSamples + 1)
		s := sound(bits, throwSamples(&d, n, bits))
		if d.roll(2) == 0 {
			s.Channels = append(s.Channels, throwSamples(&d, n, bits))
		}
		wantFits(t, "a thrown sound", s, api.MinBlock+d.roll(241))
	}
}
