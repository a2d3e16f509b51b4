package piccolo_test

// P4: the blocks, and how long a stream may be.

import (
	"strings"
	"testing"

	"piccolo/api"
	"piccolo/piccolo"
)

// fives is a stream's last part: a frame of sixteen samples 5 of 8 bits.
func fives() string { return frame(0, 0, 16, "0 000000 0", field(5, 8)) }

// withBlocks is fives with other blocks behind the first.
func withBlocks(others ...string) string {
	return "fLaC" + block(false, 0, plainInfo(16, 1, 8, 16).body()) + strings.Join(others, "") + fives()
}

func TestInfoEdges(t *testing.T) {
	for _, i := range []info{
		{16, 16, 1, 1, 4, 0}, {256, 256, 655350, 2, 16, 0}, {17, 17, 44100, 1, 5, 0}, {255, 255, 96000, 2, 15, 0},
	} {
		s, e, at := piccolo.Decode(stream(i))
		if e != api.OK || at != 0 || s.Rate != i.rate || s.Bits != i.bits || len(s.Channels) != i.channels || !right(s) {
			t.Errorf("P4: %+v: Decode = %+v, %d, %d", i, s, e, at)
		}
	}
	for _, i := range []info{
		{15, 15, 1, 1, 8, 0}, {257, 257, 1, 1, 8, 0}, {0, 0, 1, 1, 8, 0}, {65535, 65535, 1, 1, 8, 0}, {16, 17, 1, 1, 8, 0}, {17, 16, 1, 1, 8, 0},
		{16, 16, 0, 1, 8, 0}, {16, 16, 655351, 1, 8, 0}, {16, 16, 1<<20 - 1, 1, 8, 0},
		{16, 16, 1, 3, 8, 0}, {16, 16, 1, 8, 8, 0},
		{16, 16, 1, 1, 1, 0}, {16, 16, 1, 1, 3, 0}, {16, 16, 1, 1, 17, 0}, {16, 16, 1, 1, 32, 0},
		{16, 16, 1, 1, 8, 1201}, {16, 16, 1, 1, 8, 1 << 35}, {16, 16, 1, 1, 8, 1 << 32},
	} {
		wantError(t, "info", stream(i), api.ErrMeta, 0)
	}
	wantError(t, "a total of 1200, and no frame", stream(plainInfo(16, 1, 8, 1200)), api.ErrTotal, 0)
}

func TestBlocksThatMayBe(t *testing.T) {
	want := all(16, 5)
	for what, s := range map[string]string{
		"the first alone":     stream(plainInfo(16, 1, 8, 16), fives()),
		"an empty one":        withBlocks(block(true, 1, "")),
		"points, none":        withBlocks(block(true, 3, "")),
		"points, one":         withBlocks(block(true, 3, strings.Repeat("\xff", 18))),
		"points, three":       withBlocks(block(true, 3, strings.Repeat("x", 54))),
		"the type 126":        withBlocks(block(true, 126, "anything")),
		"what looks like one": withBlocks(block(true, 4, "fLaC"+block(true, 0, "")+fives())),
		"more than 255 bytes": withBlocks(block(true, 1, strings.Repeat("\x00", 257))),
		"many":                withBlocks(block(false, 1, "a"), block(false, 3, ""), block(false, 1, "a"), block(false, 6, "\xff\xf8"), block(true, 2, "abcd")),
	} {
		wantSound(t, what, s, want)
	}
}

func TestBlocksThatAreNone(t *testing.T) {
	body := plainInfo(16, 1, 8, 16).body()
	good := stream(plainInfo(16, 1, 8, 16), fives())
	for what, s := range map[string]string{
		"nothing":                  "",
		"a letter less":            "fLa",
		"the mark alone":           "fLaC",
		"another mark":             "FLaC" + good[4:],
		"the mark behind a byte":   " " + good,
		"a head cut off":           good[:7],
		"a head alone":             good[:8],
		"a first block cut off":    good[:41],
		"another type first":       "fLaC" + block(false, 1, "") + block(true, 0, body) + fives(),
		"the first with 33 bytes":  "fLaC" + block(true, 0, body[:33]) + fives(),
		"the first with 35 bytes":  "fLaC" + block(true, 0, body+"x") + fives(),
		"the first with 0 bytes":   "fLaC" + block(true, 0, "") + fives(),
		"no last block":            withBlocks(),
		"no last block, no frame":  "fLaC" + block(false, 0, body),
		"the type 0 again":         withBlocks(block(true, 0, body)),
		"the type 0 again, empty":  withBlocks(block(false, 0, ""), block(true, 1, "")),
		"the type 127":             withBlocks(block(true, 127, "")),
		"the type 127, not last":   withBlocks(block(false, 127, ""), block(true, 1, "")),
		"the type 127 first":       "fLaC" + block(true, 127, body) + fives(),
		"points of 1 byte":         withBlocks(block(true, 3, "x")),
		"points of 17 bytes":       withBlocks(block(true, 3, strings.Repeat("x", 17))),
		"points of 37 bytes":       withBlocks(block(true, 3, strings.Repeat("x", 37))),
		"points, not last, wrong":  withBlocks(block(false, 3, "x"), block(true, 1, "")),
		"more bytes than are left": withBlocks("\x81" + pack(field(len(fives())+1, 24))),
		"all too many bytes":       withBlocks("\x81\xff\xff\xff"),
	} {
		wantError(t, what, s, api.ErrMeta, 0)
	}
	wantError(t, "as many bytes as are left", withBlocks("\x81"+pack(field(len(fives()), 24))), api.ErrTotal, 0)
}

func TestLongest(t *testing.T) {
	short := len(withBlocks(block(true, 1, "")))
	longest := withBlocks(block(true, 1, strings.Repeat("z", 6000-short)))
	if len(longest) != api.MaxStream {
		t.Fatalf("the stream has %d bytes", len(longest))
	}
	wantSound(t, "6000 bytes", longest, all(16, 5))
	wantError(t, "6001 bytes", withBlocks(block(true, 1, strings.Repeat("z", 6001-short))), api.ErrLong, 0)
	wantError(t, "6001 bytes that are nothing", strings.Repeat("\x00", 6001), api.ErrLong, 0)
	wantError(t, "6000 bytes that are nothing", strings.Repeat("\x00", 6000), api.ErrMeta, 0)
	wantError(t, "a million bytes", longest+strings.Repeat("f", 1000000), api.ErrLong, 0)
}
