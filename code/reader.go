package code

import (
	"bytes"

	"wharfinger/api"
)

// Reader reads bytes from their beginning; once something went wrong nothing more is read.
type Reader struct {
	b     []byte
	at    int
	fault api.Fault // its number is OK while nothing went wrong
}

// Read: a reader of some bytes.
func Read(b []byte) *Reader { return &Reader{b: b} }

// Byte: the next byte.
func (r *Reader) Byte() byte {
	if !r.has(1) {
		return 0
	}
	return r.next(1)[0]
}

// Num: the next number.
func (r *Reader) Num() int {
	n, size := r.number()
	r.next(size)
	return n
}

// Text: the next text.
func (r *Reader) Text() []byte {
	start := r.at
	n := r.Num()
	if n > MaxText {
		r.fail(start, api.ErrLong)
	}
	if !r.has(n) {
		r.at = start // half a text isn't read
		return nil
	}
	return bytes.Clone(r.next(n))
}

// Sum: the next sum.
func (r *Reader) Sum() api.Sum {
	var s api.Sum
	if r.has(len(s)) {
		copy(s[:], r.next(len(s)))
	}
	return s
}

// At: where the reader is.
func (r *Reader) At() int { return r.at }

// Err: what went wrong; nil: nothing did.
func (r *Reader) Err() error {
	if !r.sound() {
		fault := r.fault // a Fault of the caller's own, who may write into it
		return &fault
	}
	return nil
}

// End: what went wrong, or that bytes are left.
func (r *Reader) End() error {
	if r.sound() && r.at < len(r.b) {
		r.fail(r.at, api.ErrForm)
	}
	return r.Err()
}

// sound: nothing went wrong yet.
func (r *Reader) sound() bool { return r.fault.Err == api.OK }

// fail keeps what went wrong. It is called while the reader is sound: the first error stays.
func (r *Reader) fail(at int, e api.Errno) { r.fault = api.Fault{At: at, Err: e} }

// has: can so many bytes be read? If there are too few that is the error from now on.
func (r *Reader) has(n int) bool {
	if r.sound() && n > len(r.b)-r.at {
		r.fail(len(r.b), api.ErrShort)
	}
	return r.sound()
}

// next: the next bytes, which must be there. They are b's own.
func (r *Reader) next(n int) []byte {
	r.at += n
	return r.b[r.at-n : r.at]
}

// number: the number at the reader's place, and how many bytes it has; zeros, if there is none.
func (r *Reader) number() (n, size int) {
	if !r.sound() {
		return 0, 0
	}
	for i, x := range r.b[r.at:] {
		// A highest digit of 0, or a seventh one: no number is written so.
		if i == maxDigits || i > 0 && x == 0 {
			r.fail(r.at, api.ErrForm)
			return 0, 0
		}
		n += int(x%base) << (digitBits * i)
		if x >= base {
			continue
		}
		if n > MaxNum {
			r.fail(r.at, api.ErrRange)
			return 0, 0
		}
		return n, i + 1
	}
	r.fail(len(r.b), api.ErrShort)
	return 0, 0
}
