package fields

// Writer writes one field behind the other; one without anything written is ready for use.
type Writer struct {
	data []byte
	bits int
}

// Bits tells how many bits were written.
func (w *Writer) Bits() int { return w.bits }

// String is what was written, with bits 0 up to the end of a byte that is begun.
func (w *Writer) String() string { return string(w.data) }

// Number writes a field of n bits; a number below 0 stands there in two's complement.
func (w *Writer) Number(v, n int) {
	for i := n - 1; i >= 0; i-- {
		w.bit(v >> i & 1)
	}
}

// Zeros writes n bits 0, and a bit 1.
func (w *Writer) Zeros(n int) {
	for range n {
		w.bit(0)
	}
	w.bit(1)
}

// Align writes bits 0 up to the end of a byte that is begun.
func (w *Writer) Align() { w.bits = 8 * len(w.data) }

func (w *Writer) bit(b int) {
	if w.bits == 8*len(w.data) {
		w.data = append(w.data, 0)
	}
	w.data[w.bits/8] |= byte(b << (7 - w.bits%8))
	w.bits++
}
