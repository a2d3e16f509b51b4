package piccolo_test

// P6: what Encode refuses, that Decode reads what it wrote, and what stands at the stream's head.

import (
	"math"
	"slices"
	"strconv"
	"testing"

	"piccolo/api"
	"piccolo/piccolo"
)

// sound is one of a rate that most tests can do with.
func sound(bits int, channels ...[]int) api.Sound {
	return api.Sound{Rate: 44100, Bits: bits, Channels: channels}
}

// encoded is what Encode wrote of a sound that it may not refuse, and that Decode must read again.
func encoded(t *testing.T, what string, s api.Sound, block int) string {
	t.Helper()
	text, e := piccolo.Encode(s, block)
	if e != api.OK {
		t.Fatalf("P6: %s: Encode = %d bytes, %d", what, len(text), e)
	}
	got, e, at := piccolo.Decode(text)
	if e != api.OK || at != 0 || !sameSound(got, s) {
		t.Fatalf("P6: %s: Decode = %v, %d, %d, want %v", what, got, e, at, s)
	}
	return text
}

func wantRefused(t *testing.T, what string, s api.Sound, block int) {
	t.Helper()
	if text, e := piccolo.Encode(s, block); text != "" || e != api.ErrArg {
		t.Errorf("P6: %s: Encode = %q, %d", what, text, e)
	}
}

func TestRefusedBlocks(t *testing.T) {
	for _, s := range []api.Sound{sound(8, []int{1, 2, 3}), sound(8, nil), sound(8, all(20, 1), all(20, 2))} {
		for _, block := range []int{math.MinInt, -16, -1, 0, 1, 15, 257, 272, 1 << 16, 1<<16 + 16, 1<<32 + 16, math.MaxInt} {
			wantRefused(t, "a block of "+strconv.Itoa(block), s, block)
		}
		encoded(t, "the least block", s, api.MinBlock)
		encoded(t, "the greatest block", s, api.MaxBlock)
	}
}

func TestRefusedRates(t *testing.T) {
	for _, rate := range []int{math.MinInt, -1, 0, 655351, 1 << 20, 1<<20 + 1, 1<<32 + 1, math.MaxInt} {
		wantRefused(t, "a rate of "+strconv.Itoa(rate), api.Sound{Rate: rate, Bits: 8, Channels: [][]int{{1}}}, 16)
		wantRefused(t, "no samples, a rate of "+strconv.Itoa(rate), api.Sound{Rate: rate, Bits: 8, Channels: [][]int{nil}}, 16)
	}
	for _, rate := range []int{1, 2, 8000, 65535, 65536, 655349, 655350} {
		encoded(t, "a rate", api.Sound{Rate: rate, Bits: 8, Channels: [][]int{{1}}}, 16)
	}
}

func TestRefusedBits(t *testing.T) {
	for _, bits := range []int{math.MinInt, -8, -1, 0, 1, 3, 17, 32, 33, 36, 64, 1<<32 + 8, math.MaxInt} {
		wantRefused(t, strconv.Itoa(bits)+" bits", sound(bits, []int{0}), 16)
		wantRefused(t, "no samples, "+strconv.Itoa(bits)+" bits", sound(bits, nil), 16)
	}
}

func TestRefusedChannels(t *testing.T) {
	wantRefused(t, "no channels", sound(8), 16)
	wantRefused(t, "no channels, a list", sound(8, [][]int{}...), 16)
	wantRefused(t, "three channels", sound(8, []int{1}, []int{1}, []int{1}), 16)
	wantRefused(t, "three channels without samples", sound(8, nil, nil, nil), 16)
	wantRefused(t, "nine channels", sound(8, make([][]int, 9)...), 16)
	wantRefused(t, "a shorter second channel", sound(8, []int{1, 2}, []int{1}), 16)
	wantRefused(t, "a longer second channel", sound(8, []int{1}, []int{1, 2}), 16)
	wantRefused(t, "a second channel without samples", sound(8, []int{1}, nil), 16)
	wantRefused(t, "a first channel without samples", sound(8, nil, []int{1}), 16)
	wantRefused(t, "a second channel that is too long", sound(8, all(1200, 1), all(1201, 1)), 16)
	for _, n := range []int{1201, 1216, 5000, 1 << 16} {
		wantRefused(t, "too many samples", sound(8, all(n, 1)), 256)
		wantRefused(t, "too many samples of two", sound(8, all(n, 1), all(n, 1)), 16)
	}
}

func TestRefusedSamples(t *testing.T) {
	for bits := api.MinBits; bits <= api.MaxBits; bits++ {
		least, most := -1<<(bits-1), 1<<(bits-1)-1
		for _, v := range []int{math.MinInt, least - 1<<32, 2 * least, least - 1, most + 1, 2*most + 1, 1 << bits, 1 << 32, math.MaxInt} {
			for _, at := range []int{0, 17, 39} {
				l := all(40, 1)
				l[at] = v
				what := "a sample of " + strconv.Itoa(v) + " of " + strconv.Itoa(bits) + " bits"
				wantRefused(t, what, sound(bits, l), 16)
				wantRefused(t, what+" in the first channel", sound(bits, l, all(40, 1)), 16)
				wantRefused(t, what+" in the second channel", sound(bits, all(40, 1), l), 16)
			}
			wantRefused(t, "that sample alone, and no others", sound(bits, []int{v}), 16)
		}
		encoded(t, "the greatest and the least", sound(bits, []int{most, least, 0, least, most}), 16)
	}
}

func TestEncodedIsDecoded(t *testing.T) {
	var d dice = 7
	for bits := api.MinBits; bits <= api.MaxBits; bits++ {
		for _, block := range []int{16, 17, 100, 255, 256} {
			for _, n := range []int{0, 1, 2, 3, 4, 5, 6, 15, 16, 17, 2*block - 1, 2 * block, 2*block + 1, 3*block + 5, 1200} {
				a, b := throwSamples(&d, n, bits), throwSamples(&d, n, bits)
				what := strconv.Itoa(n) + " samples of " + strconv.Itoa(bits) + " bits, a block of " + strconv.Itoa(block)
				encoded(t, what, sound(bits, a), block)
				encoded(t, "two channels, "+what, sound(bits, a, b), block)
				encoded(t, "twice the same, "+what, sound(bits, a, a), block)
			}
		}
	}
}

// TestFewSamples has every sound of up to three samples of a few values: where predictors have an order as high as there are samples.
func TestFewSamples(t *testing.T) {
	values := []int{-8, -1, 0, 1, 7}
	for n := range 4 {
		for k := range 5 * 5 * 5 {
			l := []int{values[k%5], values[k/5%5], values[k/25]}[:n]
			encoded(t, "a few", sound(4, l), 16)
			encoded(t, "a few behind a block", sound(4, append(all(16, k%3), l...)), 16)
		}
	}
}

func TestNoSamples(t *testing.T) {
	for block := api.MinBlock; block <= api.MaxBlock; block++ {
		for _, s := range []api.Sound{sound(4, nil), sound(16, []int{}), sound(8, nil, []int{}), sound(8, []int{}, nil)} {
			if text := encoded(t, "no samples", s, block); len(text) != 42 {
				t.Errorf("P6: no samples have %d bytes", len(text))
			}
		}
	}
}

// TestFirstBlockAlone holds the head of the stream against what the document says of it: a first block that is the last one.
func TestFirstBlockAlone(t *testing.T) {
	for block := api.MinBlock; block <= api.MaxBlock; block++ {
		for _, channels := range [][][]int{{all(1200, 3)}, {all(7, 3), all(7, 4)}, {nil}} {
			s := api.Sound{Rate: 655350 - block, Bits: 4 + block%13, Channels: channels}
			text := encoded(t, "a sound", s, block)
			n := len(channels[0])
			told := pack("1 0000000", field(34, 24), field(block, 16), field(block, 16))
			more := pack(field(s.Rate, 20), field(len(channels)-1, 3), field(s.Bits-1, 5), field(n, 36))
			if text[:4] != "fLaC" || text[4:12] != told || text[18:26] != more {
				t.Errorf("P6: block %d: the head is % x", block, text[:min(42, len(text))])
			}
		}
	}
}

func TestAnySounds(t *testing.T) {
	var d dice = 8
	seen := map[api.Errno]int{}
	near := func(v int) int { return v + d.roll(3) - 1 }
	for range 4000 {
		s := api.Sound{Rate: []int{1, 44100, api.MaxRate}[d.roll(3)], Bits: api.MinBits + d.roll(13)}
		n := []int{0, 1, 16, 50, near(api.MaxSamples)}[d.roll(5)]
		for range []int{0, 1, 1, 1, 2, 2, 2, 3}[d.roll(8)] {
			s.Channels = append(s.Channels, throwSamples(&d, n, s.Bits))
		}
		block := []int{near(api.MinBlock), near(api.MaxBlock), 40, 100}[d.roll(4)]
		switch d.roll(8) {
		case 0:
			s.Rate = []int{near(0), near(api.MaxRate)}[d.roll(2)]
		case 1:
			s.Bits = near(s.Bits)
		case 2:
			block = []int{math.MinInt, math.MaxInt}[d.roll(2)]
		}
		text, e := piccolo.Encode(s, block)
		seen[e]++
		want := right(s) && block >= api.MinBlock && block <= api.MaxBlock
		if want != (e == api.OK) || !want && (e != api.ErrArg || text != "") {
			t.Fatalf("P6: Encode of a rate of %d, %d bits, %d channels, block %d = %d", s.Rate, s.Bits, len(s.Channels), block, e)
		}
	}
	if seen[api.OK] < 500 || seen[api.ErrArg] < 500 {
		t.Errorf("what was answered: %v", seen)
	}
}

// guarded is a list that stands in the midst of another one, that has a mark ahead of it and behind.
func guarded(l []int) (inner, outer []int) {
	outer = append(append([]int{-77}, l...), all(9, -77)...)
	return outer[1 : 1+len(l)], outer
}

func TestEncodeWritesIntoNothing(t *testing.T) {
	var d dice = 9
	for range 200 {
		n, bits := d.roll(300), api.MinBits+d.roll(13)
		a, outerA := guarded(throwSamples(&d, n, bits))
		b, outerB := guarded(throwSamples(&d, n, bits))
		if d.roll(4) == 0 && n > 0 {
			a[d.roll(n)] = 1 << bits // refused, and not written into either
		}
		wasA, wasB := slices.Clone(outerA), slices.Clone(outerB)
		spare := [][]int{a, b, {5}, {6}}
		s := api.Sound{Rate: 5, Bits: bits, Channels: spare[:2]}
		first, e := piccolo.Encode(s, 16+d.roll(240))
		if !slices.Equal(outerA, wasA) || !slices.Equal(outerB, wasB) {
			t.Fatal("P2: Encode wrote into the samples, or beside them")
		}
		if !sameChannels(spare, [][]int{a, b, {5}, {6}}) || s.Rate != 5 || s.Bits != bits {
			t.Fatal("P2: Encode wrote into the channels, or behind them")
		}
		if e != api.OK && first != "" {
			t.Fatal("P1: beside an error stands a stream")
		}
	}
}

func TestEncodeKeepsNothing(t *testing.T) {
	var d dice = 10
	l := throwSamples(&d, 500, 12)
	was := slices.Clone(l)
	first := encoded(t, "a sound", sound(12, l), 64)
	for i := range l {
		l[i] = 0
	}
	if got, _, _ := piccolo.Decode(first); !sameSound(got, sound(12, was)) {
		t.Error("P2: what was written has changed with what was handed in")
	}
	encoded(t, "another sound", sound(12, l), 64)
	wantRefused(t, "no block", sound(12, was), 0)
	if again := encoded(t, "the first sound again", sound(12, was), 64); again != first {
		t.Error("P2: the same sound is written in another way")
	}
}
