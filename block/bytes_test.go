package block_test

import (
	"bytes"
	"slices"
	"testing"

	"wharfinger/api"
	"wharfinger/block"
	"wharfinger/code"
	"wharfinger/probe"
)

// bytesOf writes sums as the document words it.
func bytesOf(s block.Signature) []byte {
	b := probe.Nums(uint64(s.Size), uint64(s.Cut), uint64(s.Length))
	for _, x := range s.Blocks {
		b = append(append(b, probe.Nums(uint64(x.Weak))...), x.Strong[:s.Cut]...)
	}
	return b
}

// P6.4: sums written out.
func TestBytesWrittenOut(t *testing.T) {
	s := block.Signature{Size: 300, Cut: 2, Length: 301, Blocks: []block.Block{{Weak: 5, Strong: api.Sum{7, 8}}, {Weak: 1<<32 - 1, Strong: api.Sum{0, 9}}}}
	want := "\xac\x02\x02\xad\x02\x05\x07\x08\xff\xff\xff\xff\x0f\x00\x09"
	if b, e := s.Bytes(); e != api.OK || string(b) != want {
		t.Errorf("Bytes: %x, %d", b, e)
	}
	if got, err := block.Read([]byte(want)); err != nil || !same(got, s) {
		t.Errorf("Read: %v, %v", got, err)
	}
}

// P6.4: there and back.
func TestThereAndBack(t *testing.T) {
	for i, s := range right() {
		b, e := s.Bytes()
		if e != api.OK || !bytes.Equal(b, bytesOf(s)) {
			t.Errorf("the right one %d: %d bytes, %d", i, len(b), e)
		}
		if u, err := block.Read(b); err != nil || !same(u, s) || u.Check() != api.OK {
			t.Errorf("the right one %d: %v", i, err)
		}
	}
}

// P6.4: Bytes has Check's error.
func TestBytesOfWrong(t *testing.T) {
	for name, c := range wrong() {
		if b, e := c.s.Bytes(); b != nil || e != c.want {
			t.Errorf("%s: %x, %d, not %d", name, b, e, c.want)
		}
	}
}

// P6.4: what Read refuses, in the document's order.
func TestReadWrong(t *testing.T) {
	big := uint64(1) << 32
	strong := "\x01\x02"
	for _, c := range []struct {
		name string
		in   string
		want api.Fault
	}{
		{"nothing", "", api.Fault{At: 0, Err: api.ErrShort}},
		{"one number", string(probe.Nums(2)), api.Fault{At: 1, Err: api.ErrShort}},
		{"two numbers", string(probe.Nums(2, 2)), api.Fault{At: 2, Err: api.ErrShort}},
		{"half a third one", string(probe.Nums(300, 2)) + "\x80", api.Fault{At: 4, Err: api.ErrShort}},
		{"no first number", "\x80\x00\x02\x04", api.Fault{At: 0, Err: api.ErrForm}},
		{"no second number", "\x02\x80\x00\x04", api.Fault{At: 1, Err: api.ErrForm}},
		{"no third number", "\x02\x02\x80\x00", api.Fault{At: 2, Err: api.ErrForm}},
		{"a third number too great", "\x02\x02" + string(probe.Nums(1<<40+1)), api.Fault{At: 2, Err: api.ErrRange}},
		{"a wrong size and no third number", "\x00\x02\x80\x00", api.Fault{At: 2, Err: api.ErrForm}},
		{"a wrong size and two numbers", string(probe.Nums(0, 2)), api.Fault{At: 2, Err: api.ErrShort}},
		{"size 0", string(probe.Nums(0, 2, 0)), api.Fault{At: 0, Err: api.ErrRange}},
		{"size 4097", string(probe.Nums(4097, 2, 0)), api.Fault{At: 0, Err: api.ErrRange}},
		{"the greatest size", string(probe.Nums(1<<40, 2, 0)), api.Fault{At: 0, Err: api.ErrRange}},
		{"cut 33", string(probe.Nums(2, 33, 0)), api.Fault{At: 0, Err: api.ErrRange}},
		{"the greatest cut", string(probe.Nums(2, 1<<40, 4)), api.Fault{At: 0, Err: api.ErrRange}},
		{"a cut and too many", string(probe.Nums(1, 33, 4097)), api.Fault{At: 0, Err: api.ErrRange}},
		{"too many blocks", string(probe.Nums(1, 2, 4097)), api.Fault{At: 0, Err: api.ErrLong}},
		{"too many great blocks", string(probe.Nums(4096, 2, 1<<24+1)), api.Fault{At: 0, Err: api.ErrLong}},
		{"as many as can be told", string(probe.Nums(4096, 2, 1<<40)), api.Fault{At: 0, Err: api.ErrLong}},
		{"no block", string(probe.Nums(2, 2, 4)), api.Fault{At: 3, Err: api.ErrShort}},
		{"half a weak sum", string(probe.Nums(2, 2, 4)) + "\x80", api.Fault{At: 4, Err: api.ErrShort}},
		{"no strong sum", string(probe.Nums(2, 2, 4, 5)), api.Fault{At: 4, Err: api.ErrShort}},
		{"half a strong sum", string(probe.Nums(2, 2, 4, 5)) + "\x01", api.Fault{At: 5, Err: api.ErrShort}},
		{"one block of two", string(probe.Nums(2, 2, 4, 5)) + strong, api.Fault{At: 6, Err: api.ErrShort}},
		{"no weak sum", string(probe.Nums(2, 2, 4)) + "\x80\x00" + strong, api.Fault{At: 3, Err: api.ErrForm}},
		{"no second weak sum", string(probe.Nums(2, 2, 4, 5)) + strong + "\x80\x00" + strong, api.Fault{At: 6, Err: api.ErrForm}},
		{"a weak sum above all numbers", string(probe.Nums(2, 2, 4, 1<<40+1)) + strong, api.Fault{At: 3, Err: api.ErrRange}},
		{"a weak sum too great", string(probe.Nums(2, 2, 2, big)) + strong, api.Fault{At: 3, Err: api.ErrRange}},
		{"the greatest weak sum", string(probe.Nums(2, 2, 2, 1<<40)) + strong, api.Fault{At: 3, Err: api.ErrRange}},
		{"a second weak sum too great", string(probe.Nums(2, 2, 3, 5)) + strong + string(probe.Nums(big)) + strong, api.Fault{At: 6, Err: api.ErrRange}},
		{"a weak sum too great and no next block", string(probe.Nums(2, 2, 3, big)) + strong, api.Fault{At: 3, Err: api.ErrRange}},
		{"a weak sum too great and a wrong next block", string(probe.Nums(2, 2, 3, big)) + strong + "\x80\x00", api.Fault{At: 3, Err: api.ErrRange}},
		{"a weak sum too great and bytes left", string(probe.Nums(2, 2, 2, big)) + strong + "\x00", api.Fault{At: 3, Err: api.ErrRange}},
		{"a weak sum too great, of which nothing else counts", string(probe.Nums(2, 0, 2, big)), api.Fault{At: 3, Err: api.ErrRange}},
		// Layer 3's errors of a block are named ahead of its ErrRange.
		{"a weak sum too great and half a strong one", string(probe.Nums(2, 2, 2, big)) + "\x01", api.Fault{At: 9, Err: api.ErrShort}},
		{"a byte left", string(probe.Nums(2, 2, 2, 5)) + strong + "\x00", api.Fault{At: 6, Err: api.ErrForm}},
		{"a byte left behind no block", string(probe.Nums(2, 2, 0)) + "\x00", api.Fault{At: 3, Err: api.ErrForm}},
		{"a block more", string(probe.Nums(2, 2, 2, 5)) + strong + "\x05" + strong, api.Fault{At: 6, Err: api.ErrForm}},
	} {
		s, err := block.Read([]byte(c.in))
		if probe.Fault(err) != c.want || !isZero(s) {
			t.Errorf("%s: %v, %v, not %v", c.name, s, err, c.want.Error())
		}
	}
}

// P6.4: cut short anywhere, the bytes are too few, at their end.
func TestReadCutShort(t *testing.T) {
	for _, cut := range []int{0, 3, 32} {
		b := bytesOf(sumsOf(probe.Bytes(50), 6, cut))
		for n := range b {
			s, err := block.Read(b[:n])
			if probe.Fault(err) != (api.Fault{At: n, Err: api.ErrShort}) || !isZero(s) {
				t.Errorf("cut %d, %d of %d bytes: %v", cut, n, len(b), err)
			}
		}
	}
}

// P6.4: the edges of what is taken.
func TestReadEdges(t *testing.T) {
	for _, s := range []block.Signature{
		{Size: 1},
		{Size: 4096, Cut: 32},
		{Size: 1, Cut: 0, Length: 4096, Blocks: make([]block.Block, 4096)},
		{Size: 4096, Cut: 0, Length: 1 << 24, Blocks: make([]block.Block, 4096)},
		{Size: 1, Cut: 0, Length: 1, Blocks: []block.Block{{Weak: 1<<32 - 1}}},
	} {
		if got, err := block.Read(bytesOf(s)); err != nil || !same(got, s) {
			t.Errorf("size %d, length %d: %v", s.Size, s.Length, err)
		}
	}
}

// P2, rule 4: what is handed in is as it was, its spare room too, and isn't kept; what is answered is new memory.
func TestReadingAndWritingShareNothing(t *testing.T) {
	want := sumsOf(probe.Bytes(50), 6, 20)
	room := append(bytesOf(want), "spare room"...)
	before := bytes.Clone(room)
	n := len(room) - 10
	first, _ := block.Read(room[:n])
	if !bytes.Equal(room, before) {
		t.Error("Read changed the bytes")
	}
	second, _ := block.Read(room[:n])
	probe.Spoil(room)
	clear(first.Blocks[:cap(first.Blocks)])
	if !same(second, want) {
		t.Error("Read kept the bytes, or its answers share memory")
	}
	kept := slices.Clone(second.Blocks)
	b, _ := second.Bytes()
	c, _ := second.Bytes()
	probe.Spoil(b)
	if !bytes.Equal(c, bytesOf(want)) || !slices.Equal(second.Blocks, kept) {
		t.Error("the answers of Bytes share memory")
	}
}

// P2, rule 4: an error that was written into isn't kept.
func TestErrorsAreNew(t *testing.T) {
	for _, in := range []string{"", "\x00\x00\x00", "\x01\x02\x81\x20", "\x02\x00\x02\x80\x80\x80\x80\x10", "\x02\x00\x00\x00"} {
		if !probe.NewFaults(func() error { _, err := block.Read([]byte(in)); return err }) {
			t.Errorf("Read of %x", in)
		}
	}
}

// readAs reads as the document words it: first where the blocks lie, then what they say.
func readAs(b []byte) (block.Signature, api.Fault) {
	fail := func(at int, e api.Errno) (block.Signature, api.Fault) {
		return block.Signature{}, api.Fault{At: at, Err: e}
	}
	r := code.Read(b)
	size, cut, length := r.Num(), r.Num(), r.Num()
	if err := r.Err(); err != nil {
		return fail(code.Place(err), code.Number(err))
	}
	if size < 1 || size > 4096 || cut > 32 {
		return fail(0, api.ErrRange)
	}
	if length > 4096*size {
		return fail(0, api.ErrLong)
	}
	s := block.Signature{Size: size, Cut: cut, Length: length}
	for at := 0; at < length; at += size {
		place := r.At()
		value := r.Num()
		if err := r.Err(); err != nil {
			return fail(code.Place(err), code.Number(err))
		}
		from := r.At()
		if from+cut > len(b) {
			return fail(len(b), api.ErrShort)
		}
		if value >= 1<<32 {
			return fail(place, api.ErrRange)
		}
		x := block.Block{Weak: uint32(value)}
		copy(x.Strong[:], b[from:from+cut])
		for range cut {
			r.Byte()
		}
		s.Blocks = append(s.Blocks, x)
	}
	if r.At() < len(b) {
		return fail(r.At(), api.ErrForm)
	}
	return s, api.Fault{}
}

// P1, P6.4: any bytes are read as the document words it; and what is read is written so again.
func FuzzRead(f *testing.F) {
	for _, s := range right() {
		if len(s.Blocks) < 100 {
			f.Add(bytesOf(s))
		}
	}
	f.Add([]byte{})
	f.Add(probe.Nums(1, 33, 4097))
	f.Add(probe.Nums(1, 0, 4096))
	f.Add(append(probe.Nums(2, 2, 3, 1<<32), 1, 2, 5, 1, 2))
	f.Fuzz(func(t *testing.T, b []byte) {
		before := bytes.Clone(b)
		want, fault := readAs(b)
		s, err := block.Read(b)
		if probe.Fault(err) != fault || !same(s, want) {
			t.Fatalf("Read: %v, %v, not %v, %v", s, err, want, fault.Error())
		}
		if err == nil {
			if again, e := s.Bytes(); e != api.OK || !bytes.Equal(again, b) {
				t.Errorf("Bytes of what was read: %x, %d", again, e)
			}
		}
		if !bytes.Equal(b, before) {
			t.Error("the bytes were changed")
		}
	})
}
