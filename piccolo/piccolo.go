// Package piccolo: streams: see DOC.md.
package piccolo

import (
	"strings"

	"piccolo/api"
	"piccolo/blocks"
	"piccolo/frames"
)

// Decode reads a whole stream (P4, P5).
func Decode(stream string) (api.Sound, api.Errno, int) {
	info, data, err := readHead(stream)
	if err != api.OK {
		return api.Sound{}, err, 0
	}
	channels := make([][]int, info.Channels)
	err, place := eachFrame(data, info, func(part string, some [][]int) { join(channels, some) })
	if err != api.OK {
		return api.Sound{}, err, place
	}
	return api.Sound{Rate: info.Rate, Bits: info.Bits, Channels: channels}, api.OK, 0
}

// Encode writes sound as a stream (P6).
func Encode(s api.Sound, block int) (string, api.Errno) {
	info, ok := infoOf(s, block)
	if !ok {
		return "", api.ErrArg
	}
	var b strings.Builder
	b.WriteString(blocks.Write(info))
	for at := 0; at < info.Total; at += block {
		some := between(s.Channels, at, min(at+block, info.Total))
		b.WriteString(frames.Write(some, info.Bits, at/block))
	}
	return b.String(), api.OK
}

// readHead reads what stands ahead of the frames: what it tells, and the bytes behind it.
func readHead(stream string) (blocks.Info, string, api.Errno) {
	if len(stream) > api.MaxStream {
		return blocks.Info{}, "", api.ErrLong
	}
	info, at, ok := blocks.Read(stream)
	if !ok {
		return blocks.Info{}, "", api.ErrMeta
	}
	return info, stream[at:], api.OK
}

// eachFrame reads the frames up to the end of data, and hands on the bytes and the samples of each; it answers what is wrong with them, and the place of that.
func eachFrame(data string, info blocks.Info, take func(part string, channels [][]int)) (api.Errno, int) {
	number, total := 0, 0
	for len(data) > 0 {
		// Each frame ahead has info.Block samples, unless the last one of them was to be the last of all.
		if total != number*info.Block {
			return api.ErrFrame, number
		}
		f, ok := frames.Read(data, info, number)
		if !ok || total+f.Count > api.MaxSamples {
			return api.ErrFrame, number
		}
		take(data[:f.Size], f.Channels)
		data = data[f.Size:]
		total += f.Count
		number++
	}
	if total != info.Total {
		return api.ErrTotal, 0
	}
	return api.OK, 0
}

// infoOf is what a stream of a sound tells of its frames; there is none, if the sound is not right or the block may not be.
func infoOf(s api.Sound, block int) (blocks.Info, bool) {
	info := blocks.Info{Block: block, Rate: s.Rate, Channels: len(s.Channels), Bits: s.Bits}
	if len(s.Channels) > 0 {
		info.Total = len(s.Channels[0])
	}
	if !info.MayBe() {
		return blocks.Info{}, false
	}
	for _, samples := range s.Channels {
		if len(samples) != info.Total || !frames.Fit(samples, s.Bits) {
			return blocks.Info{}, false
		}
	}
	return info, true
}

// between is the samples of each channel from one place up to another, in the memory in which they lie.
func between(channels [][]int, from, to int) [][]int {
	some := make([][]int, len(channels))
	for i, samples := range channels {
		some[i] = samples[from:to]
	}
	return some
}

// join puts the samples of each channel behind those that are there.
func join(channels, some [][]int) {
	for i, samples := range some {
		channels[i] = append(channels[i], samples...)
	}
}
