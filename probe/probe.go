// Package probe has what the tests of several packages need. The program itself doesn't call it.
package probe

import (
	"errors"

	"wharfinger/api"
)

// Bytes: so many bytes that come in no simple order, high ones among them, and others for each number.
func Bytes(n int) []byte {
	b := make([]byte, n)
	x := uint32(n) + 1
	for i := range b {
		x = x*1664525 + 1013904223
		b[i] = byte(x >> 24)
	}
	return b
}

// Fault: the Fault that an error is itself, without anything around it; the zero one of nil; one that no call answers, if it is none.
func Fault(err error) api.Fault {
	if err == nil {
		return api.Fault{}
	}
	var fault *api.Fault
	if errors.As(err, &fault) && error(fault) == err {
		return *fault
	}
	return api.Fault{At: -1, Err: -1}
}

// Spoil changes all bytes, and the spare room behind them, so that who shares them is found out.
func Spoil(b []byte) {
	b = b[:cap(b)]
	for i := range b {
		b[i] ^= 0xff
	}
}
