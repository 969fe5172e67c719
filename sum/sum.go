// Package sum sums bytes: SHA-256, cut short or not, and with a key.
package sum

import "wharfinger/api"

// Whole is the cut at which all of a sum counts.
const Whole = 32

// digits are those to the base sixteen.
const digits = "0123456789abcdef"

// Of: the sum of all parts, one behind the other.
func Of(parts ...[]byte) api.Sum {
	h := newHasher()
	for _, part := range parts {
		h.write(part)
	}
	return h.finish()
}

// Cut: the first bytes of the sum of some bytes, noughts behind them: of none of it all sums are one.
func Cut(n int, b []byte) api.Sum {
	whole := Of(b)
	var s api.Sum
	copy(s[:], whole[:min(max(n, 0), Whole)])
	return s
}

// Mac: the sum of parts with a key (RFC 2104).
func Mac(key []byte, parts ...[]byte) api.Sum {
	k := keyBlock(key)
	inner := masked(k, innerMask)
	h := newHasher()
	h.write(inner[:])
	for _, part := range parts {
		h.write(part)
	}
	s := h.finish()
	outer := masked(k, outerMask)
	return Of(outer[:], s[:])
}

// Text: a sum as 64 digits to the base sixteen.
func Text(s api.Sum) string {
	var t [2 * Whole]byte
	for i, x := range s {
		t[2*i] = digits[x>>4]
		t[2*i+1] = digits[x&15]
	}
	return string(t[:])
}
