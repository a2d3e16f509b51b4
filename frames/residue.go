package frames

import "piccolo/fields"

// method is how many bits the k of a residue's part has.
type method int

const (
	methodFour method = iota
	methodFive
)

// kBits tells how many bits a k has.
func (m method) kBits() int { return 4 + int(m) }

// tooGreat is the first number that may not stand in a residue, ahead of its sign.
const tooGreat = 1 << 32

// readResidue reads the residue of a predictor of that order, for a frame of n samples.
func readResidue(r *fields.Reader, order, n int) ([]int, bool) {
	m := method(r.Number(2))
	p := r.Number(4)
	size := n >> p
	if m > methodFive || size<<p != n || size < order {
		return nil, false
	}
	residue := make([]int, 0, n-order)
	for i := range 1 << p {
		count := size
		if i == 0 {
			count -= order
		}
		part, ok := readPart(r, m.kBits(), count)
		if !ok {
			return nil, false
		}
		residue = append(residue, part...)
	}
	return residue, true
}

func readPart(r *fields.Reader, kBits, count int) ([]int, bool) {
	k := r.Number(kBits)
	if k == 1<<kBits-1 {
		return readList(r, count, r.Number(5)), true
	}
	part := make([]int, count)
	for i := range part {
		high := r.Zeros()
		u := high<<k + r.Number(k)
		if u >= tooGreat {
			return nil, false
		}
		part[i] = unfold(u)
	}
	return part, true
}

// unfold gives a number its sign back: even ones are not below 0, odd ones are.
func unfold(u int) int {
	if u%2 == 0 {
		return u / 2
	}
	return -(u + 1) / 2
}
