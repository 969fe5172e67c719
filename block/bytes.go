package block

import (
	"math"

	"wharfinger/api"
	"wharfinger/code"
)

// Bytes: the sums as bytes.
func (s Signature) Bytes() ([]byte, api.Errno) {
	if e := s.Check(); e != api.OK {
		return nil, e
	}
	out := code.Num(nil, s.Size)
	out = code.Num(out, s.Cut)
	out = code.Num(out, s.Length)
	for _, b := range s.Blocks {
		out = code.Num(out, int(b.Weak))
		out = append(out, b.Strong[:s.Cut]...)
	}
	return out, api.OK
}

// Read: the sums of some bytes.
func Read(b []byte) (Signature, error) {
	r := code.Read(b)
	var s Signature
	s.Size = r.Num()
	s.Cut = r.Num()
	s.Length = r.Num()
	if err := r.Err(); err != nil {
		return Signature{}, err
	}
	if e := s.fits(); e != api.OK {
		return Signature{}, &api.Fault{At: 0, Err: e}
	}
	for range Count(s.Length, s.Size) {
		next, err := readBlock(r, s.Cut)
		if err != nil {
			return Signature{}, err
		}
		s.Blocks = append(s.Blocks, next)
	}
	if err := r.End(); err != nil {
		return Signature{}, err
	}
	return s, nil
}

// readBlock: the next block, so many bytes of its strong sum being written. That bytes are wrong or missing is told ahead of what they say.
func readBlock(r *code.Reader, cut int) (Block, error) {
	var b Block
	at := r.At()
	value := r.Num()
	for i := range cut {
		b.Strong[i] = r.Byte()
	}
	if err := r.Err(); err != nil {
		return Block{}, err
	}
	if value > math.MaxUint32 {
		return Block{}, &api.Fault{At: at, Err: api.ErrRange}
	}
	b.Weak = uint32(value)
	return b, nil
}
