package frames

import (
	"slices"

	"piccolo/bits"
	"piccolo/fields"
)

// Write writes the frame of that number, with some samples of each channel, which have so many bits.
func Write(channels [][]int, wide, number int) string {
	var w fields.Writer
	w.Number(start, 24)
	w.Number(int(apart(len(channels))), 4)
	w.Number(0, 4)
	w.Number(number, 8)
	w.Number(len(channels[0])-1, 16)
	w.Number(bits.Crc8(w.String()), 8)
	for _, samples := range channels {
		writeSubframe(&w, shortest(samples, wide), wide)
	}
	w.Align()
	w.Number(bits.Crc16(w.String()), 8*sumSize)
	return w.String()
}

// shortest is the subframe that needs the fewest bits, of those that are tried. Each is written for that: so none can turn out longer than it was reckoned.
func shortest(samples []int, wide int) subframe {
	var best subframe
	fewest := 0
	for _, s := range tried(samples) {
		var w fields.Writer
		writeSubframe(&w, s, wide)
		if best == nil || w.Bits() < fewest {
			best, fewest = s, w.Bits()
		}
	}
	return best
}

// tried is every subframe that could hold the samples and is thought worth a try; a linear predictor is none of them.
func tried(samples []int) []subframe {
	l := []subframe{plain{samples}}
	if slices.Max(samples) == slices.Min(samples) {
		l = append(l, alike{samples[0]})
	}
	for order := range min(int(kindFixed4-kindFixed0), len(samples)) + 1 {
		l = append(l, fixed{samples[:order], missing(samples, order)})
	}
	return l
}

// missing is what a fixed predictor does not foretell: the residue.
func missing(samples []int, order int) []int {
	factors := fixedFactors(order)
	residue := make([]int, len(samples)-order)
	for i := range residue {
		at := order + i
		residue[i] = samples[at] - foretell(samples[:at], factors, 0)
	}
	return residue
}

// writeSubframe writes a subframe whose samples have so many bits, with none of them less.
func writeSubframe(w *fields.Writer, s subframe, wide int) {
	switch s := s.(type) {
	case alike:
		writeKind(w, kindAlike)
		w.Number(s.sample, wide)
	case plain:
		writeKind(w, kindPlain)
		writeList(w, s.list, wide)
	case fixed:
		writeKind(w, kindFixed0+kind(len(s.first)))
		writeList(w, s.first, wide)
		writeResidue(w, s.residue)
	}
}

func writeKind(w *fields.Writer, k kind) {
	w.Number(0, 1)
	w.Number(int(k), 6)
	w.Number(0, 1)
}

func writeList(w *fields.Writer, list []int, wide int) {
	for _, v := range list {
		w.Number(v, wide)
	}
}

// writeResidue writes a residue as one part.
func writeResidue(w *fields.Writer, residue []int) {
	kBits := methodFour.kBits()
	k := bestK(residue, 1<<kBits-2)
	w.Number(int(methodFour), 2)
	w.Number(0, 4)
	w.Number(k, kBits)
	for _, v := range residue {
		u := fold(v)
		w.Zeros(u >> k)
		w.Number(u, k)
	}
}

// bestK is the k, from 0 to most, with which a residue needs the fewest bits.
func bestK(residue []int, most int) int {
	best, fewest := 0, partBits(residue, 0)
	for k := 1; k <= most; k++ {
		if n := partBits(residue, k); n < fewest {
			best, fewest = k, n
		}
	}
	return best
}

func partBits(residue []int, k int) int {
	sum := 0
	for _, v := range residue {
		sum += fold(v)>>k + 1 + k
	}
	return sum
}

// fold is what unfold gives its sign back.
func fold(v int) int {
	if v >= 0 {
		return 2 * v
	}
	return -2*v - 1
}
