package piccolo

// What a reader keeps (the document's section Ways).

import (
	"slices"
	"testing"

	"piccolo/api"
)

// wantKept is where a reader must keep these frames, each as the sound has it.
func wantKept(t *testing.T, r *Reader, whole []int, numbers ...int) {
	t.Helper()
	if len(r.kept) != len(numbers) {
		t.Fatalf("kept are %v, want the frames %v", r.kept, numbers)
	}
	for _, number := range numbers {
		first := number * r.info.Block
		end := min(first+r.info.Block, len(whole))
		if l := r.kept[number]; len(l) != 1 || !slices.Equal(l[0], whole[first:end]) {
			t.Fatalf("the frame %d is kept as %v", number, l)
		}
	}
}

func TestKept(t *testing.T) {
	whole := make([]int, 310)
	for i := range whole {
		whole[i] = i*i%101 - 50
	}
	text, _ := Encode(api.Sound{Rate: 1, Bits: 8, Channels: [][]int{whole}}, 16)
	r, _, _ := Open(text)
	wantKept(t, r, whole)
	for _, step := range []struct {
		at, n int
		kept  []int
	}{
		{0, 5, []int{0}},
		{5, 5, []int{0}},
		{15, 2, []int{0, 1}},
		{30, 34, []int{0, 1, 2, 3}},
		{64, 1, []int{1, 2, 3, 4}},
		{16, 48, []int{1, 2, 3, 4}},
		{80, 20, []int{3, 4, 5, 6}},
		{0, 1, []int{0}},
		{200, 1, []int{12}},
		{190, 11, []int{11, 12}},
		{0, 310, []int{16, 17, 18, 19}},
		{310, 9, []int{16, 17, 18, 19}},
		{305, 9, []int{16, 17, 18, 19}},
		{255, 9, []int{15, 16}},
	} {
		r.Seek(step.at)
		r.Read(step.n)
		wantKept(t, r, whole, step.kept...)
	}
}

// TestKeptIsUsed: a frame that is kept is not worked out again.
func TestKeptIsUsed(t *testing.T) {
	text, _ := Encode(api.Sound{Rate: 1, Bits: 8, Channels: [][]int{make([]int, 40)}}, 16)
	r, _, _ := Open(text)
	r.Read(20)
	r.kept[1][0][0] = 7
	r.Seek(15)
	if l, _ := r.Read(3); !slices.Equal(l[0], []int{0, 7, 0}) {
		t.Errorf("worked out again: %v", l)
	}
}
