package piccolo_test

// P7 and P8: readers; P9: what follows for them; and P1 and P2 of them.

import (
	"math"
	"slices"
	"strconv"
	"strings"
	"testing"

	"piccolo/api"
	"piccolo/piccolo"
)

// opened is a reader that Open may not refuse, and that must be at the sample 0 of so many.
func opened(t *testing.T, what, text string, total int) *piccolo.Reader {
	t.Helper()
	r, e, place := piccolo.Open(text)
	if r == nil || e != api.OK || place != 0 {
		t.Fatalf("P7: %s: Open = a reader (%v), %d, %d", what, r != nil, e, place)
	}
	if r.Total() != total || r.Tell() != 0 {
		t.Fatalf("P7: %s: Total() = %d, Tell() = %d, want %d, 0", what, r.Total(), r.Tell(), total)
	}
	return r
}

// wantNoReader is where Open must answer an error, a place, and no reader.
func wantNoReader(t *testing.T, what, text string, want api.Errno, place int) {
	t.Helper()
	if r, e, at := piccolo.Open(text); r != nil || e != want || at != place {
		t.Errorf("P7: %s: Open = a reader (%v), %d, %d, want none, %d, %d", what, r != nil, e, at, want, place)
	}
}

// wantRead is where Read(n) must answer what stands in whole from the reader's place on, and bring it behind that.
func wantRead(t *testing.T, what string, r *piccolo.Reader, whole [][]int, n int) [][]int {
	t.Helper()
	from, total := r.Tell(), len(whole[0])
	size := min(n, total-from)
	got, e := r.Read(n)
	if e != api.OK || !sameChannels(got, slicesAt(whole, from, size)) {
		t.Fatalf("P8: %s: Read(%d) at %d = %v, %d", what, n, from, got, e)
	}
	if r.Tell() != from+size || r.Total() != total {
		t.Fatalf("P8: %s: behind Read(%d) at %d: Tell() = %d, Total() = %d", what, n, from, r.Tell(), r.Total())
	}
	return got
}

func wantSeek(t *testing.T, what string, r *piccolo.Reader, at int) {
	t.Helper()
	if e := r.Seek(at); e != api.OK || r.Tell() != at {
		t.Fatalf("P8: %s: Seek(%d) = %d, Tell() = %d", what, at, e, r.Tell())
	}
}

// wantStay is where a reader must refuse places and numbers that may not be, and stay where it is.
func wantStay(t *testing.T, what string, r *piccolo.Reader) {
	t.Helper()
	here, total := r.Tell(), r.Total()
	for _, at := range []int{math.MinInt, math.MinInt + 1, -1 << 32, -total - 1, -1, total + 1, total + 16, 1<<32 + here, math.MaxInt} {
		if e := r.Seek(at); e != api.ErrArg || r.Tell() != here || r.Total() != total {
			t.Fatalf("P8: %s: Seek(%d) at %d of %d = %d, Tell() = %d", what, at, here, total, e, r.Tell())
		}
	}
	for _, n := range []int{math.MinInt, math.MinInt + 1, -1 << 32, -here, -1} {
		if n == 0 {
			continue
		}
		if l, e := r.Read(n); l != nil || e != api.ErrArg || r.Tell() != here || r.Total() != total {
			t.Fatalf("P8: %s: Read(%d) at %d of %d = %v, %d; Tell() = %d", what, n, here, total, l, e, r.Tell())
		}
	}
}

// noise is a sound that was written, and its stream.
func noise(t *testing.T, seed dice, n, channels, block int) (api.Sound, string) {
	t.Helper()
	s := sound(9)
	for range channels {
		s.Channels = append(s.Channels, throwSamples(&seed, n, 9))
	}
	return s, encoded(t, "noise", s, block)
}

func TestReaderOfNoSamples(t *testing.T) {
	for channels := 1; channels <= 2; channels++ {
		whole := make([][]int, channels)
		r := opened(t, "no samples", stream(plainInfo(16, channels, 8, 0)), 0)
		for _, n := range []int{0, 1, 16, 17, math.MaxInt} {
			wantRead(t, "no samples", r, whole, n)
			wantSeek(t, "no samples", r, 0)
			wantStay(t, "no samples", r)
		}
	}
}

func TestReadFromEveryPlace(t *testing.T) {
	for _, n := range []int{1, 15, 16, 17, 32, 40} {
		for channels := 1; channels <= 2; channels++ {
			s, text := noise(t, 20, n, channels, 16)
			r := opened(t, "every place", text, n)
			for at := range n + 1 {
				for size := range n + 3 {
					wantSeek(t, "every place", r, at)
					wantRead(t, "every place", r, s.Channels, size)
				}
				wantSeek(t, "every place", r, at)
				wantRead(t, "every place", r, s.Channels, math.MaxInt)
			}
		}
	}
}

func TestReadInPieces(t *testing.T) {
	for _, block := range []int{16, 17, 33, 100, 256} {
		s, text := noise(t, 21, 300, 2, block)
		for _, size := range []int{1, 2, 7, 15, 16, 17, 31, 32, 64, 65, 80, 81, 150, 256, 299, 300, 301} {
			r := opened(t, "pieces", text, 300)
			got := make([][]int, 2)
			for r.Tell() < 300 {
				piece := wantRead(t, "pieces", r, s.Channels, size)
				for i := range got {
					got[i] = append(got[i], piece[i]...)
				}
			}
			if !sameChannels(got, s.Channels) {
				t.Errorf("P9: block %d, pieces of %d: not as at once", block, size)
			}
			wantRead(t, "behind the last piece", r, s.Channels, size)
		}
	}
}

func TestReadBackwards(t *testing.T) {
	s, text := noise(t, 22, 1200, 1, 16)
	for _, size := range []int{1, 5, 16, 17, 40, 100} {
		r := opened(t, "backwards", text, 1200)
		for at := 1200; at >= 0; at -= size {
			wantSeek(t, "backwards", r, at)
			wantRead(t, "backwards", r, s.Channels, size)
		}
	}
}

func TestReadBetweenTwoPlaces(t *testing.T) {
	s, text := noise(t, 23, 640, 2, 16)
	r := opened(t, "to and fro", text, 640)
	for apart := 1; apart < 40; apart++ {
		for range 3 {
			wantSeek(t, "to and fro", r, 0)
			wantRead(t, "to and fro", r, s.Channels, 20)
			wantSeek(t, "to and fro", r, 16*apart-3)
			wantRead(t, "to and fro", r, s.Channels, 40)
		}
	}
}

func TestReadNothing(t *testing.T) {
	s, text := noise(t, 24, 50, 2, 16)
	r := opened(t, "nothing", text, 50)
	for _, at := range []int{0, 1, 15, 16, 17, 48, 49, 50} {
		wantSeek(t, "nothing", r, at)
		for range 3 {
			wantRead(t, "nothing", r, s.Channels, 0)
		}
		wantRead(t, "behind nothing", r, s.Channels, 5)
	}
}

func TestReadBeyondTheEnd(t *testing.T) {
	s, text := noise(t, 25, 50, 2, 16)
	for _, at := range []int{0, 1, 16, 47, 48, 49, 50} {
		for _, n := range []int{51, 1 << 16, 1 << 32, 1<<32 + 1, 1 << 62, math.MaxInt - 50, math.MaxInt - 1, math.MaxInt} {
			r := opened(t, "beyond the end", text, 50)
			wantSeek(t, "beyond the end", r, at)
			for range 3 {
				wantRead(t, "beyond the end", r, s.Channels, n)
			}
			wantSeek(t, "back", r, at)
			wantRead(t, "back", r, s.Channels, 3)
		}
	}
}

func TestRefusedBetweenReads(t *testing.T) {
	s, text := noise(t, 26, 100, 2, 32)
	r := opened(t, "refused", text, 100)
	wantStay(t, "at the start", r)
	for r.Tell() < 100 {
		wantRead(t, "refused", r, s.Channels, 7)
		wantStay(t, "on the way", r)
	}
	wantSeek(t, "refused", r, 33)
	wantStay(t, "behind Seek", r)
	wantRead(t, "refused", r, s.Channels, 3)
}

func TestSeekAlone(t *testing.T) {
	s, text := noise(t, 27, 100, 1, 16)
	r := opened(t, "seek", text, 100)
	for _, at := range []int{100, 0, 99, 1, 50, 50, 16, 15, 100, 100, 0} {
		wantSeek(t, "seek", r, at)
	}
	wantRead(t, "seek", r, s.Channels, 100)
	wantSeek(t, "seek, at the end", r, 100)
	wantSeek(t, "seek, from the end", r, 31)
	wantRead(t, "seek", r, s.Channels, 2)
}

// wander calls a reader's methods as the dice say.
func wander(t *testing.T, d *dice, r *piccolo.Reader, whole [][]int) {
	t.Helper()
	total := len(whole[0])
	switch d.roll(8) {
	case 0, 1:
		wantSeek(t, "thrown", r, d.roll(total+1))
	case 2:
		wantSeek(t, "thrown", r, max(0, r.Tell()-d.roll(100)))
	case 3:
		scribble(wantRead(t, "thrown", r, whole, d.roll(2*total+2)))
	case 4:
		wantStay(t, "thrown", r)
	default:
		scribble(wantRead(t, "thrown", r, whole, d.roll(60)))
	}
}

func TestThrownReads(t *testing.T) {
	var d dice = 28
	for range 300 {
		c := throw(&d)
		text := c.text()
		if len(text) > api.MaxStream {
			continue
		}
		r := opened(t, "thrown", text, c.info.total)
		for range 60 {
			wander(t, &d, r, c.want)
		}
	}
}

func TestThrownReadsOfManyFrames(t *testing.T) {
	var d dice = 29
	s, text := noise(t, 29, 1200, 1, 16)
	r := opened(t, "many frames", text, 1200)
	for range 3000 {
		wander(t, &d, r, s.Channels)
	}
}

func TestReadersShareNothing(t *testing.T) {
	var d dice = 30
	s, text := noise(t, 30, 400, 2, 24)
	other, otherText := noise(t, 31, 300, 1, 24)
	a, b, c := opened(t, "a", text, 400), opened(t, "b", text, 400), opened(t, "c", otherText, 300)
	for range 1000 {
		switch d.roll(3) {
		case 0:
			wander(t, &d, a, s.Channels)
		case 1:
			wander(t, &d, b, s.Channels)
		default:
			wander(t, &d, c, other.Channels)
		}
		piccolo.Decode(otherText[:d.roll(len(otherText)+1)])
		piccolo.Open(text[:d.roll(len(text)+1)])
	}
}

// TestSameCallsSameAnswers: of two readers with the same calls, one has been elsewhere ahead of them.
func TestSameCallsSameAnswers(t *testing.T) {
	_, text := noise(t, 32, 400, 2, 24)
	a, b := opened(t, "a", text, 400), opened(t, "b", text, 400)
	for _, at := range []int{399, 5, 200} {
		a.Seek(at)
		a.Read(90)
	}
	a.Seek(0)
	for size := range 40 {
		x, e := a.Read(size)
		y, f := b.Read(size)
		if e != f || !sameChannels(x, y) || a.Tell() != b.Tell() {
			t.Fatalf("P9: Read(%d) = %v, %d, and %v, %d", size, x, e, y, f)
		}
	}
}

func TestReadIsNewMemory(t *testing.T) {
	for _, n := range []int{1, 5, 16, 20, 60} {
		s, text := noise(t, 33, 100, 2, 16)
		r := opened(t, "memory", text, 100)
		first := wantRead(t, "memory", r, s.Channels, n)
		wantSeek(t, "memory", r, 0)
		second := wantRead(t, "memory", r, s.Channels, n)
		scribble(first)
		if !sameChannels(second, slicesAt(s.Channels, 0, n)) {
			t.Fatalf("P2: two answers of Read(%d) share memory", n)
		}
		wantSeek(t, "memory", r, 0)
		third := wantRead(t, "what was handed out is written over", r, s.Channels, n)
		scribble(third[:1:1])
		if !slices.Equal(third[1], s.Channels[1][:n]) {
			t.Fatalf("P2: the channels of Read(%d) share memory", n)
		}
		wantRead(t, "what follows", r, s.Channels, 40)
	}
}

func TestReadersOfOtherBlocks(t *testing.T) {
	s, text := noise(t, 34, 70, 2, 16)
	point := pack(field(5, 64), field(1000, 64), field(16, 16))
	far := strings.Repeat("\xff", 18)
	for what, others := range map[string]string{
		"a point":                block(true, 3, point),
		"points that tell wrong": block(true, 3, point+far+point),
		"points, none":           block(true, 3, ""),
		"points twice":           block(false, 3, point) + block(true, 3, far),
		"another":                block(true, 4, "abc"),
		"what looks like frames": block(false, 2, text[42:]) + block(true, 6, text),
	} {
		longer := "fLaC\x00" + text[5:42] + others + text[42:]
		wantSound(t, what, longer, s.Channels...)
		r := opened(t, what, longer, 70)
		for _, at := range []int{0, 20, 5, 64, 47, 70} {
			wantSeek(t, what, r, at)
			wantRead(t, what, r, s.Channels, 15)
		}
	}
}

func TestNoReaderOfWhatIsCutOff(t *testing.T) {
	_, text := noise(t, 35, 40, 2, 16)
	ends := frameEnds(text[42:], 3)
	for n := range len(text) {
		want, place := api.ErrMeta, 0
		if n >= 42 {
			place, want = 0, api.ErrFrame
			for place < len(ends) && n-42 > ends[place] {
				place++
			}
			// At a frame's end no frame is wrong: there are too few.
			if n == 42 || n-42 == ends[place] {
				want, place = api.ErrTotal, 0
			}
		}
		wantError(t, "cut off at "+strconv.Itoa(n), text[:n], want, place)
	}
	wantError(t, "a byte more", text+"\x00", api.ErrFrame, 3)
}

// frameEnds is where each of so many frames ends: they are found by their heads.
func frameEnds(data string, count int) []int {
	var l []int
	for number := 1; number < count; number++ {
		l = append(l, strings.Index(data, frameHead(1, number, 16)[:5]))
	}
	return append(l, len(data))
}
