package fields_test

import (
	"testing"

	"piccolo/fields"
)

func TestWriteNumbers(t *testing.T) {
	var w fields.Writer
	if w.Bits() != 0 || w.String() != "" {
		t.Errorf("nothing is %d bits, % x", w.Bits(), w.String())
	}
	w.Number(1, 1)
	w.Number(2, 3)
	w.Number(0, 0)
	w.Number(0x50, 8)
	w.Number(-1, 3)
	w.Number(-2, 2)
	if w.Bits() != 17 || w.String() != "\xa5\x0f\x00" {
		t.Errorf("17 bits are %d, % x", w.Bits(), w.String())
	}
}

func TestWriteNumberTooWide(t *testing.T) {
	var w fields.Writer
	w.Number(0x1ff, 4)
	w.Number(0, 4)
	if w.String() != "\xf0" {
		t.Errorf("of a number above its field stands % x", w.String())
	}
}

func TestWriteZeros(t *testing.T) {
	var w fields.Writer
	for _, n := range []int{0, 6, 9} {
		w.Zeros(n)
	}
	if w.Bits() != 18 || w.String() != "\x81\x00\x40" {
		t.Errorf("three runs are %d bits, % x", w.Bits(), w.String())
	}
}

func TestWriteAlign(t *testing.T) {
	var w fields.Writer
	w.Align()
	w.Number(1, 1)
	w.Align()
	w.Align()
	w.Number(0xff, 8)
	w.Align()
	if w.Bits() != 16 || w.String() != "\x80\xff" {
		t.Errorf("two bytes are %d bits, % x", w.Bits(), w.String())
	}
}

func TestWriteThenRead(t *testing.T) {
	var w fields.Writer
	for n := 1; n <= 36; n++ {
		w.Number(1<<(n-1), n)
		w.Number(-1<<(n-1), n)
		w.Number(1<<(n-1)-1, n)
		w.Zeros(n)
	}
	r := fields.NewReader(w.String())
	for n := 1; n <= 36; n++ {
		a, b, c, z := r.Number(n), r.Signed(n), r.Signed(n), r.Zeros()
		if a != 1<<(n-1) || b != -1<<(n-1) || c != 1<<(n-1)-1 || z != n {
			t.Errorf("fields of %d bits are %d, %d, %d, and a run %d", n, a, b, c, z)
		}
	}
	if r.Over() || r.Bytes() != len(w.String()) {
		t.Errorf("over %v, at the byte %d", r.Over(), r.Bytes())
	}
}
