// Package piccolo: streams: see DOC.md.
package piccolo

import (
	"strings"

	"piccolo/api"
	"piccolo/blocks"
	"piccolo/frames"
)

// Reader reads a stream.
type Reader struct{}

// Decode reads a whole stream (P4, P5).
func Decode(stream string) (api.Sound, api.Errno, int) {
	if len(stream) > api.MaxStream {
		return api.Sound{}, api.ErrLong, 0
	}
	info, at, ok := blocks.Read(stream)
	if !ok {
		return api.Sound{}, api.ErrMeta, 0
	}
	channels, number, ok := readFrames(stream[at:], info)
	if !ok {
		return api.Sound{}, api.ErrFrame, number
	}
	if len(channels[0]) != info.Total {
		return api.Sound{}, api.ErrTotal, 0
	}
	return api.Sound{Rate: info.Rate, Bits: info.Bits, Channels: channels}, api.OK, 0
}

// Encode writes sound as a stream (P6).
func Encode(s api.Sound, block int) (string, api.Errno) {
	info, ok := infoOf(s, block)
	if !ok {
		return "", api.ErrArg
	}
	var b strings.Builder
	b.WriteString(blocks.Write(info))
	for at := 0; at < info.Total; at += block {
		some := between(s.Channels, at, min(at+block, info.Total))
		b.WriteString(frames.Write(some, info.Bits, at/block))
	}
	return b.String(), api.OK
}

// Open makes a reader of a stream (P7).
func Open(stream string) (*Reader, api.Errno, int) { return nil, api.OK, 0 }

// Total tells how many samples each channel has (P7).
func (r *Reader) Total() int { return 0 }

// Tell tells where the reader is (P8).
func (r *Reader) Tell() int { return 0 }

// Seek goes to a place (P8).
func (r *Reader) Seek(at int) api.Errno { return api.OK }

// Read reads samples from there on (P8).
func (r *Reader) Read(n int) ([][]int, api.Errno) { return nil, api.OK }

// readFrames reads frames up to the end of data: all samples; or the number of the first one that is none.
func readFrames(data string, info blocks.Info) ([][]int, int, bool) {
	channels := make([][]int, info.Channels)
	number, total := 0, 0
	for len(data) > 0 {
		// Each frame ahead has info.Block samples, unless the last one of them was to be the last of all.
		if total != number*info.Block {
			return nil, number, false
		}
		f, ok := frames.Read(data, info, number)
		if !ok || total+f.Count > api.MaxSamples {
			return nil, number, false
		}
		for i := range channels {
			channels[i] = append(channels[i], f.Channels[i]...)
		}
		data = data[f.Size:]
		total += f.Count
		number++
	}
	return channels, 0, true
}

// infoOf is what a stream of a sound tells of its frames; there is none, if the sound is not right or the block may not be.
func infoOf(s api.Sound, block int) (blocks.Info, bool) {
	info := blocks.Info{Block: block, Rate: s.Rate, Channels: len(s.Channels), Bits: s.Bits}
	if len(s.Channels) > 0 {
		info.Total = len(s.Channels[0])
	}
	if !info.MayBe() {
		return blocks.Info{}, false
	}
	for _, samples := range s.Channels {
		if len(samples) != info.Total || !frames.Fit(samples, s.Bits) {
			return blocks.Info{}, false
		}
	}
	return info, true
}

// between is the samples of each channel from one place up to another, in the memory in which they lie.
func between(channels [][]int, from, to int) [][]int {
	some := make([][]int, len(channels))
	for i, samples := range channels {
		some[i] = samples[from:to]
	}
	return some
}
