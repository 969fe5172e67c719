// Package probe has what the tests of several packages need. The program itself doesn't call it.
package probe

import (
	"bytes"
	"errors"
	"iter"
	"slices"

	"wharfinger/api"
	"wharfinger/block"
	"wharfinger/delta"
	"wharfinger/frame"
)

// Bytes: so many bytes that come in no simple order, high ones among them, and others for each number.
func Bytes(n int) []byte {
	b := make([]byte, n)
	x := uint32(n) + 1
	for i := range b {
		x = x*1664525 + 1013904223
		b[i] = byte(x >> 24)
	}
	return b
}

// Rows: every row of these signs, of so many at most, the empty one first. Each is new memory.
func Rows(signs []byte, most int) iter.Seq[[]byte] {
	return func(yield func([]byte) bool) {
		rows := [][]byte{nil} // all of one length
		for n := range most + 1 {
			var longer [][]byte
			for _, row := range rows {
				if !yield(slices.Clone(row)) {
					return
				}
				for i := 0; i < len(signs) && n < most; i++ {
					longer = append(longer, slices.Concat(row, signs[i:i+1]))
				}
			}
			rows = longer
		}
	}
}

// Weak: the value of a window's weak sum as the document words it, in numbers that don't wrap.
func Weak(b []byte) uint32 {
	var low, high uint64
	for i, x := range b {
		low += uint64(x)
		high += uint64(len(b)-i) * uint64(x)
	}
	return uint32(high%65536)<<16 | uint32(low%65536)
}

// Nums: numbers as bytes: of each its lower bits, seven by seven, the highest bit telling that others follow.
func Nums(list ...uint64) []byte {
	var b []byte
	for _, n := range list {
		for ; n > 127; n >>= 7 {
			b = append(b, byte(n)|128)
		}
		b = append(b, byte(n))
	}
	return b
}

// Fault: the Fault that an error is itself, without anything around it; the zero one of nil; one that no call answers, if it is none.
func Fault(err error) api.Fault {
	if err == nil {
		return api.Fault{}
	}
	var fault *api.Fault
	if errors.As(err, &fault) && error(fault) == err {
		return *fault
	}
	return api.Fault{At: -1, Err: -1}
}

// NewFaults: is every Fault that a call answers a new one, so that none is changed by what is written into another?
func NewFaults(call func() error) bool {
	first, second := call(), call()
	want := Fault(first)
	var fault *api.Fault
	if !errors.As(first, &fault) {
		return false
	}
	fault.At, fault.Err = 77, api.ErrGone
	return Fault(second) == want && Fault(call()) == want
}

// SameFrame: are two frames one, data that are nil and empty ones being the same?
func SameFrame(f, g frame.Frame) bool {
	return f.Kind == g.Kind && f.Stream == g.Stream && bytes.Equal(f.Data, g.Data)
}

// Sums: those of a file's blocks, size and cut being ones that can be.
func Sums(data []byte, size, cut int) block.Signature {
	s, _ := block.Make(data, size, cut)
	return s
}

// AnySums: a signature of any shape. Each block has its weak sum and the first bytes of its strong one from a few bytes.
func AnySums(size, cut, length int, raw []byte) block.Signature {
	s := block.Signature{Size: size, Cut: cut, Length: length}
	for piece := range slices.Chunk(raw, 4) {
		var b block.Block
		b.Weak = uint32(piece[0]) << (piece[0] % 25)
		copy(b.Strong[:], piece[1:])
		s.Blocks = append(s.Blocks, b)
	}
	return s
}

// Blocks: a token of some blocks.
func Blocks(first, count int) delta.Token { return delta.Token{First: first, Count: count} }

// Text: a token of some bytes.
func Text(s string) delta.Token { return delta.Token{Data: []byte(s)} }

// SameTokens: are two lists of tokens one, lists and data that are nil and empty ones being the same?
func SameTokens(list, other []delta.Token) bool {
	return slices.EqualFunc(list, other, func(t, u delta.Token) bool {
		return t.First == u.First && t.Count == u.Count && bytes.Equal(t.Data, u.Data)
	})
}

// CloneTokens: the same tokens, in memory of their own.
func CloneTokens(list []delta.Token) []delta.Token {
	list = slices.Clone(list)
	for i := range list {
		list[i].Data = bytes.Clone(list[i].Data)
	}
	return list
}

// SpoilTokens changes all tokens, their data and the spare room of all of them.
func SpoilTokens(list []delta.Token) {
	list = list[:cap(list)]
	for i := range list {
		Spoil(list[i].Data)
		list[i].First += spoiled
		list[i].Count += spoiled
	}
}

// spoiled is added to what is spoiled, so that what is spoiled twice isn't as it was.
const spoiled = 101

// Spoil changes all bytes, and the spare room behind them, so that who shares them is found out.
func Spoil(b []byte) {
	b = b[:cap(b)]
	for i := range b {
		b[i] += spoiled
	}
}
