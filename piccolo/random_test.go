package piccolo_test

// P1, P2 and P4 with streams of every shape, made by a fixed rule; and with changed ones.

import (
	"strings"
	"testing"

	"piccolo/api"
	"piccolo/piccolo"
)

// dice is numbers by a fixed rule, that look thrown.
type dice uint64

// roll is a number from 0 to n - 1.
func (d *dice) roll(n int) int {
	*d = *d*6364136223846793005 + 1442695040888963407
	return int(uint64(*d)>>33) % n
}

// thrown is a stream that was made, its parts, and what must be read in it.
type thrown struct {
	info   info
	frames []string
	want   [][]int
}

func (c thrown) text() string { return stream(c.info, c.frames...) }

func throw(d *dice) thrown {
	bits := api.MinBits + d.roll(api.MaxBits-api.MinBits+1)
	size := api.MinBlock + d.roll(100)
	if d.roll(3) == 0 {
		size = []int{16, 32, 48, 64, 128, 256}[d.roll(6)]
	}
	c := thrown{info: info{size, size, 1 + d.roll(api.MaxRate), 1 + d.roll(2), bits, d.roll(400)}}
	for range c.info.channels {
		c.want = append(c.want, throwSamples(d, c.info.total, bits))
	}
	for at := 0; at < c.info.total; at += size {
		n := min(size, c.info.total-at)
		c.frames = append(c.frames, throwFrame(d, at/size, n, bits, slicesAt(c.want, at, n)))
	}
	return c
}

func slicesAt(channels [][]int, at, n int) [][]int {
	var l [][]int
	for _, c := range channels {
		l = append(l, c[at:at+n])
	}
	return l
}

func throwSamples(d *dice, n, bits int) []int {
	least, most := -1<<(bits-1), 1<<(bits-1)-1
	noise, low, v := 1+d.roll(1<<bits), d.roll(bits), 0
	if d.roll(2) == 0 {
		noise, low = 1+d.roll(8), 0
	}
	l := make([]int, n)
	for i := range l {
		if d.roll(20) > 0 {
			v = max(least, min(most, v+d.roll(noise)-noise/2))
		}
		l[i] = v >> low << low
	}
	return l
}

func throwFrame(d *dice, number, n, bits int, channels [][]int) string {
	if len(channels) == 1 {
		return frame(0, number, n, throwSubframe(d, channels[0], bits))
	}
	a, b := channels[0], channels[1]
	side := made(n, func(i int) int { return a[i] - b[i] })
	middle := made(n, func(i int) int { return (a[i] + b[i]) >> 1 })
	switch d.roll(4) {
	case 0:
		return frame(1, number, n, throwSubframe(d, a, bits), throwSubframe(d, b, bits))
	case 1:
		return frame(8, number, n, throwSubframe(d, a, bits), throwSubframe(d, side, bits+1))
	case 2:
		return frame(9, number, n, throwSubframe(d, side, bits+1), throwSubframe(d, b, bits))
	}
	return frame(10, number, n, throwSubframe(d, middle, bits), throwSubframe(d, side, bits+1))
}

func throwSubframe(d *dice, samples []int, wide int) string {
	used := 0
	for _, v := range samples {
		used |= v
	}
	less := 0
	for less < wide-1 && used>>less&1 == 0 && d.roll(4) > 0 {
		less++
	}
	w := "0"
	if less > 0 {
		w = "1" + strings.Repeat("0", less-1) + "1"
	}
	halved := made(len(samples), func(i int) int { return samples[i] >> less })
	kind, body := throwKind(d, halved, wide-less)
	return "0" + field(kind, 6) + w + body
}

func throwKind(d *dice, l []int, wide int) (int, string) {
	alike := true
	for _, v := range l {
		alike = alike && v == l[0]
	}
	n := len(l)
	switch d.roll(8) {
	case 0:
		return 1, listOf(wide, l...)
	case 1, 2, 3:
		order := d.roll(min(4, n) + 1)
		factors := [][]int{nil, {1}, {2, -1}, {3, -3, 1}, {4, -6, 4, -1}}[order]
		return 8 + order, listOf(wide, l[:order]...) + throwResidue(d, order, l, factors, 0)
	case 4, 5, 6:
		order := 1 + d.roll(min(8, n))
		bits := 1 + d.roll(15)
		shift := max(d.roll(16), wide+bits-28) // so that no residue is too great
		factors := made(order, func(int) int { return d.roll(1<<bits) - 1<<(bits-1) })
		return 31 + order, listOf(wide, l[:order]...) + field(bits-1, 4) + field(shift, 5) + listOf(bits, factors...) + throwResidue(d, order, l, factors, shift)
	}
	if alike {
		return 0, field(l[0], wide)
	}
	return 1, listOf(wide, l...)
}

func throwResidue(d *dice, order int, l, factors []int, shift int) string {
	n := len(l)
	p := d.roll(9)
	for n%(1<<p) != 0 || n>>p < order {
		p--
	}
	residue := made(n, func(i int) int {
		sum := 0
		for k, f := range factors {
			if i >= order {
				sum += f * l[i-1-k]
			}
		}
		return l[i] - sum>>shift
	})
	method := 1
	if d.roll(2) == 0 && !tooWide(residue[order:]) {
		method = 0
	}
	var b strings.Builder
	b.WriteString(field(method, 2) + field(p, 4))
	for at := 0; at < n; at += n >> p {
		b.WriteString(throwPart(d, method, residue[max(at, order):at+n>>p]))
	}
	return b.String()
}

// tooWide tells whether four bits of k would not do.
func tooWide(residue []int) bool {
	for _, v := range residue {
		if v >= 1<<17 || v < -1<<17 {
			return true
		}
	}
	return false
}

func throwPart(d *dice, method int, residue []int) string {
	kBits := 4 + method
	u := make([]int, len(residue))
	most := 0
	for i, v := range residue {
		u[i] = 2 * v
		if v < 0 {
			u[i] = -2*v - 1
		}
		most = max(most, u[i])
	}
	wide := 0
	for most>>wide > 0 {
		wide++
	}
	if wide <= 31 && d.roll(4) == 0 {
		return field(1<<kBits-1, kBits) + field(wide, 5) + listOf(wide, residue...)
	}
	k := min(1<<kBits-2, max(0, wide-3)+d.roll(2))
	var b strings.Builder
	b.WriteString(field(k, kBits))
	for _, v := range u {
		b.WriteString(strings.Repeat("0", v>>k) + "1" + field(v, k))
	}
	return b.String()
}

func TestThrownStreams(t *testing.T) {
	var d dice = 1
	read := 0
	for range 1500 {
		c := throw(&d)
		text := c.text()
		if len(text) > api.MaxStream {
			continue
		}
		read++
		s, e, at := piccolo.Decode(text)
		if e != api.OK || at != 0 || !sameSound(s, api.Sound{Rate: c.info.rate, Bits: c.info.bits, Channels: c.want}) {
			t.Fatalf("P4: Decode of %+v = %d, %d, %v, want %v", c.info, e, at, s, c.want)
		}
	}
	if read < 800 {
		t.Errorf("only %d streams were short enough", read)
	}
}

// reseal puts the right sums to a frame that was changed.
func reseal(f string) string { return seal(f[:7], f[8:len(f)-2]) }

// ends checks what holds of every answer, whatever was given.
func ends(t *testing.T, text string, frames int) api.Errno {
	t.Helper()
	s, e, at := piccolo.Decode(text)
	switch {
	case e == api.OK && (at != 0 || !right(s)):
		t.Errorf("P4: Decode = %v and the place %d", s, at)
	case e != api.OK && (s.Rate != 0 || s.Bits != 0 || s.Channels != nil):
		t.Errorf("P1: beside the error %d stands %v", e, s)
	case e != api.ErrFrame && at != 0 || at < 0 || at > frames:
		t.Errorf("P5: the place of %d is %d", e, at)
	case e < api.OK || e == api.ErrArg || e > api.ErrTotal:
		t.Errorf("P4: the error is %d", e)
	}
	if e == api.OK {
		wantRead(t, "a stream that is right", opened(t, "a stream that is right", text, len(s.Channels[0])), s.Channels, api.MaxSamples)
	} else {
		wantNoReader(t, "a stream that is none", text, e, at)
	}
	return e
}

func TestChangedFrames(t *testing.T) {
	var d dice = 2
	seen := map[api.Errno]int{}
	for range 300 {
		c := throw(&d)
		if len(c.frames) == 0 {
			continue
		}
		for range 20 {
			k := d.roll(len(c.frames))
			old := c.frames[k]
			for range 1 + d.roll(3) {
				c.frames[k] = flip(c.frames[k], 64+d.roll(8*len(old)-80))
			}
			c.frames[k] = reseal(c.frames[k])
			seen[ends(t, c.text(), len(c.frames))]++
			c.frames[k] = old
		}
	}
	if seen[api.OK] < 100 || seen[api.ErrFrame] < 100 {
		t.Errorf("what was answered: %v", seen)
	}
}

func TestChangedBytes(t *testing.T) {
	var d dice = 3
	for range 200 {
		c := throw(&d)
		text := c.text()
		for range 20 {
			changed := text
			for range 1 + d.roll(3) {
				changed = flip(changed, d.roll(8*len(text)))
			}
			ends(t, changed, len(c.frames))
		}
	}
}

func TestCutOff(t *testing.T) {
	var d dice = 4
	for range 20 {
		c := throw(&d)
		text := c.text()
		if len(text) > api.MaxStream {
			continue
		}
		for n := range len(text) {
			if e := ends(t, text[:n], len(c.frames)); e == api.OK || e == api.ErrMeta != (n < 42) {
				t.Errorf("P4: %d bytes of %d: %d", n, len(text), e)
			}
		}
	}
}

func TestAnyBytes(t *testing.T) {
	var d dice = 5
	for range 3000 {
		l := make([]byte, d.roll(120))
		for i := range l {
			l[i] = byte(d.roll(256))
		}
		ends(t, string(l), 75)
		ends(t, "fLaC"+string(l), 75)
		ends(t, stream(plainInfo(16, 1+d.roll(2), 8, 16))+string(l), 75)
		ends(t, stream(plainInfo(16, 1, 8, 16), seal(frameHead(0, 0, 16), string(l))), 75)
	}
}
