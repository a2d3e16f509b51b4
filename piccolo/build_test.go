package piccolo_test

// What tests make streams of: texts of 0 and 1, blanks as one likes.

import (
	"math"
	"slices"
	"strconv"
	"strings"
	"testing"

	"piccolo/api"
	"piccolo/bits"
	"piccolo/piccolo"
)

// field is a number of n bits, in two's complement if it is below 0.
func field(v, n int) string {
	l := make([]byte, n)
	for i := range l {
		l[i] = '0' + byte(v>>(n-1-i)&1)
	}
	return string(l)
}

// listOf is numbers of n bits each.
func listOf(n int, numbers ...int) string {
	var b strings.Builder
	for _, v := range numbers {
		b.WriteString(field(v, n))
	}
	return b.String()
}

// pack makes bytes of bits, with bits 0 up to a byte's end.
func pack(texts ...string) string {
	s := strings.ReplaceAll(strings.Join(texts, ""), " ", "")
	s += strings.Repeat("0", (8-len(s)%8)%8)
	l := make([]byte, len(s)/8)
	for i := range l {
		v, err := strconv.ParseUint(s[8*i:8*i+8], 2, 8)
		if err != nil {
			panic(err)
		}
		l[i] = byte(v)
	}
	return string(l)
}

// seal puts the two sums to a frame: behind its head of 7 bytes, and behind its subframes.
func seal(head, body string) string {
	f := head + pack(field(bits.Crc8(head), 8)) + body
	return f + pack(field(bits.Crc16(f), 16))
}

// frame is one of a mode, a number, n samples of each channel, and subframes.
func frame(mode, number, n int, subframes ...string) string {
	return seal(frameHead(mode, number, n), pack(subframes...))
}

func frameHead(mode, number, n int) string {
	return pack("11111111111110 00 0111 0000", field(mode, 4), "000 0", field(number, 8), field(n-1, 16))
}

// info is what the first block tells.
type info struct{ block, again, rate, channels, bits, total int }

// plainInfo is one of a block, channels, bits and a total, such that most tests can do with it.
func plainInfo(block, channels, bits, total int) info {
	return info{block, block, 44100, channels, bits, total}
}

func (i info) body() string {
	return pack(field(i.block, 16), field(i.again, 16), field(0xabcdef, 24), field(0x123456, 24), field(i.rate, 20),
		field(i.channels-1, 3), field(i.bits-1, 5), field(i.total, 36), strings.Repeat("10100101", 16))
}

// block is one of a type, with its bytes.
func block(last bool, kind int, body string) string {
	bit := 0
	if last {
		bit = 1
	}
	return pack(field(bit, 1), field(kind, 7), field(len(body), 24)) + body
}

// stream is one with the first block alone, and frames.
func stream(i info, frames ...string) string {
	return "fLaC" + block(true, 0, i.body()) + strings.Join(frames, "")
}

// one is a stream of one frame of one channel, of 8 bits, that has n samples; its block is 16, or n if that is more.
func one(n int, subframe ...string) string {
	return stream(plainInfo(max(16, n), 1, 8, n), frame(0, 0, n, subframe...))
}

// pair is a stream of one frame of two channels of 8 bits with one sample each, as a mode has them: the subframes' samples have so many bits.
func pair(mode, a, aBits, b, bBits int) string {
	return stream(plainInfo(16, 2, 8, 1), frame(mode, 0, 1, "0 000000 0", field(a, aBits), "0 000000 0", field(b, bBits)))
}

// made is so many numbers by a rule.
func made(n int, rule func(i int) int) []int {
	l := make([]int, n)
	for i := range l {
		l[i] = rule(i)
	}
	return l
}

// all is n times a number.
func all(n, v int) []int { return slices.Repeat([]int{v}, n) }

// ones is as many residues 0 with a k of 0.
func ones(n int) string { return strings.Repeat("1", n) }

func sameChannels(a, b [][]int) bool {
	return slices.EqualFunc(a, b, func(x, y []int) bool { return slices.Equal(x, y) })
}

func sameSound(a, b api.Sound) bool {
	return a.Rate == b.Rate && a.Bits == b.Bits && sameChannels(a.Channels, b.Channels)
}

// right tells whether a sound is right, as the document's section Words has it.
func right(s api.Sound) bool {
	ok := s.Rate >= 1 && s.Rate <= api.MaxRate && s.Bits >= api.MinBits && s.Bits <= api.MaxBits &&
		(len(s.Channels) == 1 || len(s.Channels) == 2)
	for _, l := range s.Channels {
		ok = ok && len(l) == len(s.Channels[0]) && len(l) <= api.MaxSamples
		for _, v := range l {
			ok = ok && v>>(s.Bits-1) == v>>s.Bits
		}
	}
	return ok
}

// wantSound is where Decode must answer these samples, and a reader too.
func wantSound(t *testing.T, what, stream string, channels ...[]int) {
	t.Helper()
	s, e, at := piccolo.Decode(stream)
	if e != api.OK || at != 0 || !sameChannels(s.Channels, channels) || !right(s) {
		t.Errorf("P4: %s: Decode = %v, %d, %d, want %v", what, s, e, at, channels)
	}
	wantRead(t, what, opened(t, what, stream, len(channels[0])), channels, math.MaxInt)
}

// wantError is where Decode and Open must answer an error, a place, and nothing else.
func wantError(t *testing.T, what, stream string, want api.Errno, place int) {
	t.Helper()
	s, e, at := piccolo.Decode(stream)
	if e != want || at != place {
		t.Errorf("P4, P5: %s: Decode = %d, %d, want %d, %d", what, e, at, want, place)
	}
	if s.Rate != 0 || s.Bits != 0 || s.Channels != nil {
		t.Errorf("P1: %s: beside an error stands %v", what, s)
	}
	wantNoReader(t, what, stream, want, place)
}
