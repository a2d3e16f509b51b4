package fields_test

import (
	"testing"

	"piccolo/fields"
)

func TestNumbers(t *testing.T) {
	r := fields.NewReader("\xa5\x0f\x80")
	got := []int{r.Number(1), r.Number(3), r.Number(0), r.Number(8), r.Signed(3), r.Signed(0), r.Signed(2), r.Number(7)}
	for i, want := range []int{1, 2, 0, 0x50, -1, 0, -1, 0} {
		if got[i] != want {
			t.Errorf("field %d is %d, want %d", i, got[i], want)
		}
	}
	if r.Over() || r.Bytes() != 3 {
		t.Errorf("at the end: over %v, byte %d", r.Over(), r.Bytes())
	}
}

func TestZeros(t *testing.T) {
	r := fields.NewReader("\x81\x00\x40")
	for i, want := range []int{0, 6, 9} {
		if got := r.Zeros(); got != want || r.Over() {
			t.Errorf("run %d is %d, want %d", i, got, want)
		}
	}
	if got := r.Zeros(); got != 0 || !r.Over() {
		t.Errorf("a run without an end is %d, over %v", got, r.Over())
	}
}

func TestOver(t *testing.T) {
	r := fields.NewReader("\xff\xff")
	if got := r.Number(17); got != 0 || !r.Over() {
		t.Errorf("17 bits of 16 are %d, over %v", got, r.Over())
	}
	if r.Number(1) != 0 || r.Signed(1) != 0 || r.Zeros() != 0 || !r.Over() {
		t.Error("something is left behind what was not there")
	}
	if none := fields.NewReader(""); none.Number(0) != 0 || none.Over() || none.Number(1) != 0 || !none.Over() {
		t.Error("no bytes have bits")
	}
}

func TestAlign(t *testing.T) {
	r := fields.NewReader("\x80\xc0\xff")
	if !r.Align() || r.Bytes() != 0 {
		t.Error("nothing is begun, and yet something is passed")
	}
	r.Number(1)
	if r.Bytes() != 1 || !r.Align() || r.Bytes() != 1 {
		t.Error("seven bits 0 are not passed")
	}
	r.Number(1)
	if r.Align() || r.Bytes() != 2 {
		t.Error("a bit 1 is passed as 0")
	}
}
