package frames

import (
	"slices"

	"piccolo/fields"
)

// kind is the way in which a subframe holds its samples.
type kind int

const (
	kindAlike kind = iota
	kindPlain
)

const (
	kindFixed0 kind = iota + 8
	kindFixed1
	kindFixed2
	kindFixed3
	kindFixed4
)

const (
	kindLinear1 kind = iota + 32
	kindLinear2
	kindLinear3
	kindLinear4
	kindLinear5
	kindLinear6
	kindLinear7
	kindLinear8
)

// subframe is what a subframe holds, of whatever kind.
type subframe interface {
	// samples works out the n samples, ahead of doubling, as a new list.
	samples(n int) []int
}

// alike is one sample, which all are.
type alike struct{ sample int }

// plain is the samples as they are.
type plain struct{ list []int }

// fixed is a fixed predictor; its order is the number of its first samples.
type fixed struct {
	first   []int
	residue []int
}

// linear is a linear predictor; its order is the number of its first samples, and of its factors.
type linear struct {
	first   []int
	factors []int
	shift   int
	residue []int
}

func (s alike) samples(n int) []int { return slices.Repeat([]int{s.sample}, n) }

func (s plain) samples(n int) []int { return slices.Clone(s.list) }

func (s fixed) samples(n int) []int {
	return foretold(s.first, s.residue, fixedFactors(len(s.first)), 0)
}

func (s linear) samples(n int) []int {
	return foretold(s.first, s.residue, s.factors, s.shift)
}

// fixedFactors are those of the linear predictor that foretells the same, with no shift.
func fixedFactors(order int) []int {
	switch order {
	case 1:
		return []int{1}
	case 2:
		return []int{2, -1}
	case 3:
		return []int{3, -3, 1}
	case 4:
		return []int{4, -6, 4, -1}
	}
	return nil
}

// foretold works out the samples of a predictor. A sample that is too great is found only behind this: those that follow it may have wrapped round, but the first such one is exact.
func foretold(first, residue, factors []int, shift int) []int {
	l := slices.Grow(slices.Clone(first), len(residue))
	for _, v := range residue {
		l = append(l, foretell(l, factors, shift)+v)
	}
	return l
}

func foretell(ahead, factors []int, shift int) int {
	sum := 0
	for i, f := range factors {
		sum += f * ahead[len(ahead)-1-i]
	}
	return sum >> shift
}

// readSubframe reads a subframe of n samples of so many bits, and works them out.
func readSubframe(r *fields.Reader, wide, n int) ([]int, bool) {
	nought := r.Number(1)
	k := kind(r.Number(6))
	less := 0
	if r.Number(1) == 1 {
		less = r.Zeros() + 1
	}
	if nought != 0 || less >= wide {
		return nil, false
	}
	s, ok := readKind(r, k, wide-less, n)
	if !ok || r.Over() {
		return nil, false
	}
	samples := s.samples(n)
	if !Fit(samples, wide-less) {
		return nil, false
	}
	for i := range samples {
		samples[i] <<= less
	}
	return samples, true
}

func readKind(r *fields.Reader, k kind, wide, n int) (subframe, bool) {
	switch {
	case k == kindAlike:
		return alike{r.Signed(wide)}, true
	case k == kindPlain:
		return plain{readList(r, n, wide)}, true
	case kindFixed0 <= k && k <= kindFixed4:
		return readFixed(r, int(k-kindFixed0), wide, n)
	case kindLinear1 <= k && k <= kindLinear8:
		return readLinear(r, int(k-kindLinear1)+1, wide, n)
	}
	return nil, false
}

func readFixed(r *fields.Reader, order, wide, n int) (subframe, bool) {
	if order > n {
		return nil, false
	}
	first := readList(r, order, wide)
	residue, ok := readResidue(r, order, n)
	return fixed{first, residue}, ok
}

const mostFactorBits = 15

func readLinear(r *fields.Reader, order, wide, n int) (subframe, bool) {
	if order > n {
		return nil, false
	}
	first := readList(r, order, wide)
	factorBits := r.Number(4) + 1
	shift := r.Signed(5)
	if factorBits > mostFactorBits || shift < 0 {
		return nil, false
	}
	factors := readList(r, order, factorBits)
	residue, ok := readResidue(r, order, n)
	return linear{first, factors, shift, residue}, ok
}

// readList reads n signed fields of so many bits each.
func readList(r *fields.Reader, n, wide int) []int {
	l := make([]int, n)
	for i := range l {
		l[i] = r.Signed(wide)
	}
	return l
}
