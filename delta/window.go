package delta

import "wharfinger/weak"

// window is the bytes for which a block is looked next, with their weak sum.
type window struct {
	most int    // how many bytes it has, if so many are left
	rest []byte // what isn't told yet: the window's bytes, and those behind them
	sum  weak.Sum
}

// open: the window on the first bytes.
func open(rest []byte, most int) window {
	return window{most: most, rest: rest, sum: weak.Of(rest[:min(most, len(rest))])}
}

// bytes: those of the window.
func (w window) bytes() []byte { return w.rest[:w.sum.Size()] }

// behind: the next window, when this one is told.
func (w window) behind() window { return open(w.rest[w.sum.Size():], w.most) }

// on: the next window, when the first byte of this one is told. Its sum is rolled on, as to sum each window anew takes long.
func (w window) on() window {
	first, size := w.rest[0], w.sum.Size()
	if size < len(w.rest) {
		w.sum = w.sum.Roll(first, w.rest[size])
	} else {
		w.sum = w.sum.Out(first)
	}
	w.rest = w.rest[1:]
	return w
}
