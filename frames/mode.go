package frames

// mode is how the subframes of a frame hold the channels.
type mode int

const (
	modeOne mode = iota
	modeTwo
)

const (
	modeFirstSide mode = iota + 8
	modeSideSecond
	modeMiddleSide
)

// channels tells how many channels a frame of that mode has; 0: there is no such mode.
func (m mode) channels() int {
	switch m {
	case modeOne:
		return 1
	case modeTwo, modeFirstSide, modeSideSecond, modeMiddleSide:
		return 2
	}
	return 0
}

// apart is the mode in which the subframes are so many channels, each by itself.
func apart(channels int) mode {
	if channels == 1 {
		return modeOne
	}
	return modeTwo
}

// wide tells how many bits the samples of a subframe (0 or 1) have.
func (m mode) wide(subframe, bits int) int {
	side := -1
	switch m {
	case modeFirstSide, modeMiddleSide:
		side = 1
	case modeSideSecond:
		side = 0
	}
	if subframe == side {
		return bits + 1
	}
	return bits
}

// part makes the two channels, in their place, of what the two subframes hold.
func (m mode) part(a, b []int) {
	for i := range a {
		a[i], b[i] = m.pair(a[i], b[i])
	}
}

func (m mode) pair(a, b int) (int, int) {
	switch m {
	case modeFirstSide:
		return a, a - b
	case modeSideSecond:
		return a + b, b
	case modeMiddleSide:
		// Halving lost the sum's lowest bit, which is the side's too.
		sum := 2*a + b&1
		return (sum + b) / 2, (sum - b) / 2
	}
	return a, b
}
