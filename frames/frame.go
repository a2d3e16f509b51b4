// Package frames: the frames of a stream, each with some samples of each channel.
package frames

import (
	"piccolo/bits"
	"piccolo/blocks"
	"piccolo/fields"
)

// Frame is a frame that was read.
type Frame struct {
	Size     int // in bytes
	Count    int // samples of each channel
	Channels [][]int
}

const (
	start    = 0xfff870 // all that stands ahead of the mode, and is the same in each frame
	headSize = 8
	sumSize  = 2
)

type head struct {
	mode  mode
	count int
}

// Read reads the frame of that number, with which data begins; what stands behind it is not looked at.
func Read(data string, info blocks.Info, number int) (Frame, bool) {
	h, ok := readHead(data, info, number)
	if !ok {
		return Frame{}, false
	}
	body := fields.NewReader(data[headSize:])
	channels, ok := readChannels(body, h, info)
	if !ok || !body.Align() {
		return Frame{}, false
	}
	ahead := headSize + body.Bytes()
	told := body.Number(8 * sumSize)
	if body.Over() || told != bits.Crc16(data[:ahead]) {
		return Frame{}, false
	}
	return Frame{ahead + sumSize, h.count, channels}, true
}

func readHead(data string, info blocks.Info, number int) (head, bool) {
	r := fields.NewReader(data)
	begin := r.Number(24)
	m := mode(r.Number(4))
	nought := r.Number(4)
	told := r.Number(8)
	count := r.Number(16) + 1
	sum := r.Number(8)
	ok := !r.Over() && begin == start && nought == 0 && told == number &&
		count <= info.Block && m.channels() == info.Channels &&
		sum == bits.Crc8(data[:headSize-1])
	return head{m, count}, ok
}

func readChannels(r *fields.Reader, h head, info blocks.Info) ([][]int, bool) {
	channels := make([][]int, info.Channels)
	for i := range channels {
		samples, ok := readSubframe(r, h.mode.wide(i, info.Bits), h.count)
		if !ok {
			return nil, false
		}
		channels[i] = samples
	}
	if len(channels) == 2 {
		h.mode.part(channels[0], channels[1])
	}
	for _, samples := range channels {
		if !Fit(samples, info.Bits) {
			return nil, false
		}
	}
	return channels, true
}

// Fit tells whether samples are all numbers of so many bits.
func Fit(samples []int, wide int) bool {
	most := 1<<(wide-1) - 1
	for _, v := range samples {
		if v > most || v < -most-1 {
			return false
		}
	}
	return true
}
