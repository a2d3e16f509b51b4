// Package bits: check sums: see DOC.md.
package bits

// Crc8 is a sum of 8 bits (P3).
func Crc8(data string) int { return sum(data, 8, 0x07) }

// Crc16 is a sum of 16 bits (P3).
func Crc16(data string) int { return sum(data, 16, 0x8005) }

func sum(data string, wide, by int) int {
	r := 0
	for i := range len(data) {
		// The byte's eight bits meet the highest eight of r, each in its turn: XORed in at once, only r's own highest bit is left to ask.
		r ^= int(data[i]) << (wide - 8)
		for range 8 {
			r = double(r, wide, by)
		}
	}
	return r
}

func double(r, wide, by int) int {
	top := r >> (wide - 1)
	r = r << 1 & (1<<wide - 1)
	if top == 1 {
		r ^= by
	}
	return r
}
