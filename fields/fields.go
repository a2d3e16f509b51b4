// Package fields: fields of so many bits, out of bytes and into them, the highest bit first.
package fields

// Reader reads one field behind the other. Once it is asked for more than is left, it is Over and every field is 0, so that it is enough to ask for that behind several fields.
type Reader struct {
	data string
	at   int // in bits
	over bool
}

// NewReader makes a reader at the first bit of data.
func NewReader(data string) *Reader { return &Reader{data: data} }

// Over tells whether more was asked for than there is.
func (r *Reader) Over() bool { return r.over }

// Bytes tells how many bytes lie behind the reader, one that is begun among them.
func (r *Reader) Bytes() int { return (r.at + 7) / 8 }

// Number reads a field of n bits.
func (r *Reader) Number(n int) int {
	if n > r.left() {
		r.end()
		return 0
	}
	v := 0
	for range n {
		v = v<<1 | r.bit()
	}
	return v
}

// Signed reads a field of n bits in two's complement; one of no bits is 0.
func (r *Reader) Signed(n int) int {
	v := r.Number(n)
	if n > 0 && v>>(n-1) == 1 {
		v -= 1 << n
	}
	return v
}

// Zeros reads bits up to the next 1, that one too, and tells how many bits 0 stood ahead of it.
func (r *Reader) Zeros() int {
	for n := range r.left() {
		if r.bit() == 1 {
			return n
		}
	}
	r.end()
	return 0
}

// Align reads up to the end of a byte that is begun, and tells whether those bits were all 0.
func (r *Reader) Align() bool { return r.Number(8*r.Bytes()-r.at) == 0 }

func (r *Reader) left() int { return 8*len(r.data) - r.at }

// end leaves nothing to read, so that no later field is found behind one that was not there.
func (r *Reader) end() {
	r.at = 8 * len(r.data)
	r.over = true
}

func (r *Reader) bit() int {
	b := int(r.data[r.at/8]) >> (7 - r.at%8) & 1
	r.at++
	return b
}
