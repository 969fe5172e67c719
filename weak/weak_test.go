package weak_test

import (
	"bytes"
	"testing"

	"wharfinger/probe"
	"wharfinger/weak"
)

// The calls keep the document's signatures.
var (
	_ func([]byte) weak.Sum               = weak.Of
	_ func(weak.Sum, byte) weak.Sum       = weak.Sum.In
	_ func(weak.Sum, byte) weak.Sum       = weak.Sum.Out
	_ func(weak.Sum, byte, byte) weak.Sum = weak.Sum.Roll
	_ func(weak.Sum) int                  = weak.Sum.Size
	_ func(weak.Sum) uint32               = weak.Sum.Value
)

func check(t *testing.T, what string, s weak.Sum, b []byte) {
	t.Helper()
	if s.Size() != len(b) || s.Value() != probe.Weak(b) {
		t.Errorf("%s: size %d, value %08x, not %d, %08x", what, s.Size(), s.Value(), len(b), probe.Weak(b))
	}
	if s != weak.Of(b) {
		t.Errorf("%s: not the sum of its window", what)
	}
}

// P2.1: the document's example.
func TestExample(t *testing.T) {
	s := weak.Of([]byte("abc"))
	if s.Value()&0xffff != 294 || s.Value()>>16 != 586 || s.Size() != 3 {
		t.Errorf("abc: low %d, high %d, size %d", s.Value()&0xffff, s.Value()>>16, s.Size())
	}
	if s.Roll('a', 'd') != weak.Of([]byte("bcd")) {
		t.Error("abc rolled on by d isn't bcd")
	}
}

// P2.1: windows of all sizes, byte by byte; both halves go round at 2^16.
func TestOfAndIn(t *testing.T) {
	windows := [][]byte{probe.Bytes(3000), bytes.Repeat([]byte{255}, 3000), make([]byte, 300)}
	for _, b := range windows {
		var s weak.Sum
		for i, x := range b {
			check(t, "In", s, b[:i])
			s = s.In(x)
		}
		check(t, "In", s, b)
	}
	great := bytes.Repeat([]byte{255}, 200000)
	check(t, "a window of more than 2^16 bytes", weak.Of(great), great)
}

// P2.1: at the very edge of 2^16 the low half is 65535, then 0 again.
func TestEdgeOfHalf(t *testing.T) {
	b := bytes.Repeat([]byte{255}, 257)
	s := weak.Of(b)
	if s.Value()&0xffff != 65535 {
		t.Errorf("257 times 255: low %d", s.Value()&0xffff)
	}
	if s = s.In(1); s.Value()&0xffff != 0 {
		t.Errorf("and 1: low %d", s.Value()&0xffff)
	}
	check(t, "and 1", s, append(b, 1))
}

// P2.1: an empty window has the zero Sum.
func TestEmpty(t *testing.T) {
	var none weak.Sum
	for _, b := range [][]byte{nil, {}} {
		if s := weak.Of(b); s != none || s.Size() != 0 || s.Value() != 0 {
			t.Errorf("an empty window: size %d, value %08x", s.Size(), s.Value())
		}
	}
	check(t, "In of the zero Sum", none.In(200), []byte{200})
}

// Types: two are the same just if both their values and their sizes are.
func TestSame(t *testing.T) {
	if weak.Of([]byte{0}) == weak.Of([]byte{0, 0}) || weak.Of(nil) == weak.Of([]byte{0}) {
		t.Error("windows of other sizes are the same")
	}
	if weak.Of([]byte{1, 2}) == weak.Of([]byte{2, 1}) {
		t.Error("other values are the same")
	}
	one, other := weak.Of([]byte{0, 2, 0}), weak.Of([]byte{1, 0, 1})
	if one.Value() != other.Value() || one != other {
		t.Error("the same value and size, but not the same")
	}
	if weak.Of([]byte("ab")).In('c').Out('a').In('d').Out('b') != weak.Of([]byte("cd")) {
		t.Error("the way to a window is to be seen in its sum")
	}
}

// P2.2: windows of many sizes go along many bytes.
func TestRoll(t *testing.T) {
	b := probe.Bytes(1500)
	for _, n := range []int{1, 2, 3, 16, 255, 256, 257, 700, 1499} {
		s := weak.Of(b[:n])
		for i := n; i < len(b); i++ {
			if two := s.Out(b[i-n]).In(b[i]); two != s.Roll(b[i-n], b[i]) {
				t.Fatalf("window of %d at %d: Roll isn't Out and In", n, i)
			}
			s = s.Roll(b[i-n], b[i])
			check(t, "Roll", s, b[i-n+1:i+1])
		}
	}
}

// P2.2: a window is emptied from its front.
func TestOut(t *testing.T) {
	for _, b := range [][]byte{probe.Bytes(700), bytes.Repeat([]byte{255}, 700), make([]byte, 70)} {
		s := weak.Of(b)
		for i, x := range b {
			check(t, "Out", s, b[i:])
			s = s.Out(x)
		}
		if s != (weak.Sum{}) {
			t.Error("emptied, but not the zero Sum")
		}
	}
	great := bytes.Repeat([]byte{255}, 70000)
	s := weak.Of(great)
	check(t, "Out of more than 2^16 bytes", s.Out(255), great[1:])
	check(t, "Roll of more than 2^16 bytes", s.Roll(255, 3), append(great[1:], 3))
}

// P2.2: of an empty window nothing goes out, and it doesn't roll.
func TestEmptyStays(t *testing.T) {
	var none weak.Sum
	emptied := weak.Of([]byte{5}).Out(9) // empty, but with another value than the zero Sum
	if emptied.Size() != 0 || emptied.Value() == 0 {
		t.Fatalf("emptied by another byte: size %d, value %08x", emptied.Size(), emptied.Value())
	}
	for _, s := range []weak.Sum{none, emptied} {
		for x := range 256 {
			if s.Out(byte(x)) != s || s.Roll(byte(x), 7) != s || s.Roll(7, byte(x)) != s {
				t.Errorf("an empty window changed with %d", x)
			}
		}
	}
}

// P2.2: with another byte than the first one it is reckoned as if it was.
func TestOtherByte(t *testing.T) {
	b := []byte{10, 20, 30, 40}
	s := weak.Of(b)
	for x := range 256 {
		d := uint16(x)
		low, high := uint16(100)-d, uint16(4*10+3*20+2*30+40)-4*d
		got := s.Out(byte(x))
		if got.Size() != 3 || got.Value() != uint32(high)<<16|uint32(low) {
			t.Errorf("Out %d: size %d, value %08x, not 3, %04x%04x", x, got.Size(), got.Value(), high, low)
		}
		if s.Roll(byte(x), 50) != got.In(50) {
			t.Errorf("Roll %d isn't Out and In", x)
		}
	}
}

// P2, rule 4: neither a window nor its spare room is changed or kept, nor is a sum that another one was had from.
func TestArgumentsStay(t *testing.T) {
	room := probe.Bytes(100)
	before := bytes.Clone(room)
	s := weak.Of(room[:50])
	value := s.Value()
	if !bytes.Equal(room, before) {
		t.Error("Of changed its argument")
	}
	s.In(1)
	s.Out(room[0])
	s.Roll(room[0], 1)
	room[0]++
	if s.Value() != value || s.Size() != 50 || s != weak.Of(before[:50]) {
		t.Error("a sum changed by itself")
	}
}

// P1: any bytes are taken, the wrong ones too.
func FuzzAnyArguments(f *testing.F) {
	f.Add([]byte(nil), byte(0), byte(0))
	f.Add([]byte("abc"), byte('a'), byte('d'))
	f.Add(bytes.Repeat([]byte{255}, 300), byte(0), byte(255))
	f.Fuzz(func(t *testing.T, b []byte, out, in byte) {
		s := weak.Of(b)
		check(t, "Of", s, b)
		check(t, "In", s.In(in), append(bytes.Clone(b), in))
		if len(b) == 0 {
			return
		}
		check(t, "Out", s.Out(b[0]), b[1:])
		check(t, "Roll", s.Roll(b[0], in), append(bytes.Clone(b[1:]), in))
		if s.Out(out).Size() != len(b)-1 || s.Roll(out, in) != s.Out(out).In(in) {
			t.Error("with another byte")
		}
	})
}
