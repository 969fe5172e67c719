// Package weak has the sum that rolls: when a window goes on by a byte its sum is had from the last one.
package weak

// Sum is the weak sum of a window: of its bytes, and of these sums.
type Sum struct {
	size int
	low  uint16 // of the bytes
	high uint16 // of the bytes, each as often as it is places from the window's end
}

// Of: the weak sum of a window.
func Of(b []byte) Sum {
	var s Sum
	for _, x := range b {
		s = s.In(x)
	}
	return s
}

// In: the window has a byte more.
func (s Sum) In(x byte) Sum {
	low := s.low + uint16(x)
	// Every byte is one place further from the end now, the new one too.
	return Sum{size: s.size + 1, low: low, high: s.high + low}
}

// Out: the window's first byte, which is this one, is gone; of an empty window nothing is.
func (s Sum) Out(x byte) Sum {
	if s.size == 0 {
		return s
	}
	// The first byte was counted as often as the window has bytes.
	return Sum{size: s.size - 1, low: s.low - uint16(x), high: s.high - uint16(s.size)*uint16(x)}
}

// Roll: the window goes on by a byte: its first one is gone, another one is its last.
func (s Sum) Roll(out, in byte) Sum {
	if s.size == 0 {
		return s
	}
	return s.Out(out).In(in)
}

// Size: how many bytes the window has.
func (s Sum) Size() int { return s.size }

// Value: the sum as a number.
func (s Sum) Value() uint32 { return uint32(s.high)<<16 | uint32(s.low) }
