// Package blocks: the blocks that a stream begins with.
package blocks

import (
	"strings"

	"piccolo/api"
	"piccolo/fields"
)

// Info is what the first block tells of the frames.
type Info struct {
	Block    int // samples of a frame, the last one may have fewer
	Rate     int
	Channels int
	Bits     int
	Total    int // samples of each channel
}

const (
	mark      = "fLaC"
	headSize  = 4
	infoSize  = 34
	pointSize = 18
)

const (
	kindInfo   = 0
	kindPoints = 3
	kindNone   = 127
)

type block struct {
	last bool
	kind int
	body string
}

// Read reads the blocks at the head of a stream: what they tell, and at which byte the frames begin.
func Read(stream string) (Info, int, bool) {
	if !strings.HasPrefix(stream, mark) {
		return Info{}, 0, false
	}
	at := len(mark)
	first, ok := readBlock(stream[at:])
	if !ok || first.kind != kindInfo {
		return Info{}, 0, false
	}
	info, ok := readInfo(first.body)
	at += headSize + len(first.body)
	for b := first; ok && !b.last; at += headSize + len(b.body) {
		b, ok = readBlock(stream[at:])
		ok = ok && mayFollow(b)
	}
	if !ok {
		return Info{}, 0, false
	}
	return info, at, true
}

// Write writes the head of a stream with no block but the first. What means nothing there is 0.
func Write(info Info) string {
	var w fields.Writer
	w.Number(1, 1)
	w.Number(kindInfo, 7)
	w.Number(infoSize, 24)
	w.Number(info.Block, 16)
	w.Number(info.Block, 16)
	w.Number(0, 24)
	w.Number(0, 24)
	w.Number(info.Rate, 20)
	w.Number(info.Channels-1, 3)
	w.Number(info.Bits-1, 5)
	w.Number(info.Total, 36)
	w.Number(0, 8*16)
	return mark + w.String()
}

func readBlock(data string) (block, bool) {
	r := fields.NewReader(data)
	last := r.Number(1) == 1
	kind := r.Number(7)
	size := r.Number(24)
	if r.Over() || size > len(data)-headSize {
		return block{}, false
	}
	return block{last, kind, data[headSize : headSize+size]}, true
}

func mayFollow(b block) bool {
	switch b.kind {
	case kindInfo, kindNone:
		return false
	case kindPoints:
		return len(b.body)%pointSize == 0
	}
	return true
}

func readInfo(body string) (Info, bool) {
	if len(body) != infoSize {
		return Info{}, false
	}
	r := fields.NewReader(body)
	least := r.Number(16)
	most := r.Number(16)
	r.Number(24)
	r.Number(24)
	i := Info{Block: most}
	i.Rate = r.Number(20)
	i.Channels = r.Number(3) + 1
	i.Bits = r.Number(5) + 1
	i.Total = r.Number(36)
	return i, least == most && i.MayBe()
}

// MayBe tells whether all that it tells is within the limits.
func (i Info) MayBe() bool {
	return within(i.Block, api.MinBlock, api.MaxBlock) &&
		within(i.Rate, 1, api.MaxRate) &&
		within(i.Channels, 1, 2) &&
		within(i.Bits, api.MinBits, api.MaxBits) &&
		within(i.Total, 0, api.MaxSamples)
}

func within(v, least, most int) bool { return least <= v && v <= most }
