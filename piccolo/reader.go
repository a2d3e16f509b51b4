package piccolo

import (
	"strings"

	"piccolo/api"
	"piccolo/blocks"
	"piccolo/frames"
)

// few is how many frames a reader keeps at most.
const few = 4

// Reader reads a stream.
type Reader struct {
	info  blocks.Info
	parts []string // the bytes of each frame
	at    int
	// kept has the samples of frames that were worked out, by their numbers: no more than few, which follow each other.
	kept map[int][][]int
}

// Open makes a reader of a stream (P7).
func Open(stream string) (*Reader, api.Errno, int) {
	info, data, err := readHead(stream)
	if err != api.OK {
		return nil, err, 0
	}
	r := &Reader{info: info, kept: map[int][][]int{}}
	err, place := eachFrame(data, info, func(part string, some [][]int) {
		// A copy, since what is handed in is not kept.
		r.parts = append(r.parts, strings.Clone(part))
	})
	if err != api.OK {
		return nil, err, place
	}
	return r, api.OK, 0
}

// Total tells how many samples each channel has (P7).
func (r *Reader) Total() int { return r.info.Total }

// Tell tells where the reader is (P8).
func (r *Reader) Tell() int { return r.at }

// Seek goes to a place (P8).
func (r *Reader) Seek(at int) api.Errno {
	if at < 0 || at > r.info.Total {
		return api.ErrArg
	}
	r.at = at
	return api.OK
}

// Read reads samples from there on (P8).
func (r *Reader) Read(n int) ([][]int, api.Errno) {
	if n < 0 {
		return nil, api.ErrArg
	}
	block := r.info.Block
	end := r.at + min(n, r.info.Total-r.at)
	channels := make([][]int, r.info.Channels)
	for number := r.at / block; number*block < end; number++ {
		first := number * block
		join(channels, between(r.frame(number), max(r.at-first, 0), min(end-first, block)))
	}
	r.at = end
	return channels, api.OK
}

// frame is the samples of the frame of that number, in the memory that is kept.
func (r *Reader) frame(number int) [][]int {
	if channels, ok := r.kept[number]; ok {
		return channels
	}
	if _, ok := r.kept[number-1]; !ok {
		// The reader has gone elsewhere: what is kept lies far from there.
		clear(r.kept)
	}
	delete(r.kept, number-few)
	f, _ := frames.Read(r.parts[number], r.info, number) // Open has found it right
	r.kept[number] = f.Channels
	return f.Channels
}
