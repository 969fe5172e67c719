// Package probe has what the tests of several packages need. The program itself doesn't call it.
package probe

import (
	"bytes"
	"errors"
	"iter"
	"slices"

	"wharfinger/api"
	"wharfinger/frame"
)

// Bytes: so many bytes that come in no simple order, high ones among them, and others for each number.
func Bytes(n int) []byte {
	b := make([]byte, n)
	x := uint32(n) + 1
	for i := range b {
		x = x*1664525 + 1013904223
		b[i] = byte(x >> 24)
	}
	return b
}

// Rows: every row of these signs, of so many at most, the empty one first. Each is new memory.
func Rows(signs []byte, most int) iter.Seq[[]byte] {
	return func(yield func([]byte) bool) {
		rows := [][]byte{nil} // all of one length
		for n := range most + 1 {
			var longer [][]byte
			for _, row := range rows {
				if !yield(slices.Clone(row)) {
					return
				}
				for i := 0; i < len(signs) && n < most; i++ {
					longer = append(longer, slices.Concat(row, signs[i:i+1]))
				}
			}
			rows = longer
		}
	}
}

// Weak: the value of a window's weak sum as the document words it, in numbers that don't wrap.
func Weak(b []byte) uint32 {
	var low, high uint64
	for i, x := range b {
		low += uint64(x)
		high += uint64(len(b)-i) * uint64(x)
	}
	return uint32(high%65536)<<16 | uint32(low%65536)
}

// Fault: the Fault that an error is itself, without anything around it; the zero one of nil; one that no call answers, if it is none.
func Fault(err error) api.Fault {
	if err == nil {
		return api.Fault{}
	}
	var fault *api.Fault
	if errors.As(err, &fault) && error(fault) == err {
		return *fault
	}
	return api.Fault{At: -1, Err: -1}
}

// SameFrame: are two frames one, data that are nil and empty ones being the same?
func SameFrame(f, g frame.Frame) bool {
	return f.Kind == g.Kind && f.Stream == g.Stream && bytes.Equal(f.Data, g.Data)
}

// Spoil changes all bytes, and the spare room behind them, so that who shares them is found out.
func Spoil(b []byte) {
	b = b[:cap(b)]
	for i := range b {
		b[i] ^= 0xff
	}
}
