package bits_test

import (
	"strings"
	"testing"

	"piccolo/bits"
)

// slow is the sum as P3 tells it, bit by bit.
func slow(data string, wide, by int) int {
	r := 0
	for i := range len(data) {
		for k := 7; k >= 0; k-- {
			differ := r>>(wide-1) != int(data[i])>>k&1
			r = r * 2 % (1 << wide)
			if differ {
				r ^= by
			}
		}
	}
	return r
}

func TestKnownSums(t *testing.T) {
	for _, c := range []struct {
		data        string
		eight, wide int
	}{
		{"", 0, 0},
		{"\x00", 0, 0},
		{"\x00\x00\x00", 0, 0},
		{"\x01", 0x07, 0x8005},
		{"\x80", 0x89, 0x8303},
		{"123456789", 0xf4, 0xfee8},
	} {
		if a, b := bits.Crc8(c.data), bits.Crc16(c.data); a != c.eight || b != c.wide {
			t.Errorf("P3: sums of %q are %#x and %#x, want %#x and %#x", c.data, a, b, c.eight, c.wide)
		}
	}
}

func TestSumsBitByBit(t *testing.T) {
	all := make([]byte, 256)
	for i := range all {
		all[i] = byte(i)
	}
	list := []string{"fLaC", "é", strings.Repeat("\xff", 50), strings.Repeat("\x00\x01", 5000)}
	for i := range all {
		list = append(list, string(all[i:i+1]), string(all[:i]), string(all[i:]))
	}
	for _, data := range list {
		if a, b := bits.Crc8(data), bits.Crc16(data); a != slow(data, 8, 0x07) || b != slow(data, 16, 0x8005) {
			t.Errorf("P3: sums of %q are %#x and %#x", data, a, b)
		}
	}
}

func TestSumsAgain(t *testing.T) {
	for range 3 {
		if bits.Crc8("123456789") != 0xf4 || bits.Crc16("123456789") != 0xfee8 {
			t.Error("P2: a sum is another one, asked again")
		}
	}
}
