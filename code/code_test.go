package code_test

import (
	"bytes"
	"encoding/binary"
	"math"
	"testing"

	"wharfinger/api"
	"wharfinger/code"
	"wharfinger/probe"
)

// The calls keep the document's signatures, the limits their values.
var (
	_ func([]byte, int) []byte    = code.Num
	_ func([]byte, []byte) []byte = code.Text
	_ func([]byte) *code.Reader   = code.Read
	_ func(*code.Reader) byte     = (*code.Reader).Byte
	_ func(*code.Reader) int      = (*code.Reader).Num
	_ func(*code.Reader) []byte   = (*code.Reader).Text
	_ func(*code.Reader) api.Sum  = (*code.Reader).Sum
	_ func(*code.Reader) int      = (*code.Reader).At
	_ func(*code.Reader) error    = (*code.Reader).Err
	_ func(*code.Reader) error    = (*code.Reader).End
	_ func(error) api.Errno       = code.Number
	_ func(error) int             = code.Place
	_ [1099511627776 - code.MaxNum]struct{}
	_ [code.MaxNum - 1099511627776]struct{}
	_ [4096]struct{} = [code.MaxText]struct{}{}
)

// inRange: numbers that Num takes as they are, among them all at which a digit more begins.
func inRange() []int {
	ns := []int{0, 1, 2, 126, 300, 12345, 1000000007}
	for bit := range 41 {
		ns = append(ns, 1<<bit-1, 1<<bit)
		if bit < 40 {
			ns = append(ns, 1<<bit+1)
		}
	}
	return ns
}

// P3.1: numbers written out.
func TestNumExamples(t *testing.T) {
	for _, c := range []struct {
		n    int
		want string
	}{
		{0, "\x00"},
		{1, "\x01"},
		{127, "\x7f"},
		{128, "\x80\x01"},
		{300, "\xac\x02"},
		{16383, "\xff\x7f"},
		{16384, "\x80\x80\x01"},
		{1<<35 - 1, "\xff\xff\xff\xff\x7f"},
		{1 << 35, "\x80\x80\x80\x80\x80\x01"},
		{code.MaxNum - 1, "\xff\xff\xff\xff\xff\x1f"},
		{code.MaxNum, "\x80\x80\x80\x80\x80\x20"},
	} {
		if got := code.Num(nil, c.n); string(got) != c.want {
			t.Errorf("Num of %d: %x, not %x", c.n, got, c.want)
		}
		if got := code.Num([]byte("front"), c.n); string(got) != "front"+c.want {
			t.Errorf("Num of %d behind a front: %x", c.n, got)
		}
	}
}

// P3.1: the same as the library's digits to that base.
func TestNumAsTheLibrary(t *testing.T) {
	for _, n := range inRange() {
		if got, want := code.Num([]byte{9}, n), binary.AppendUvarint([]byte{9}, uint64(n)); !bytes.Equal(got, want) {
			t.Errorf("Num of %d: %x, not %x", n, got, want)
		}
	}
}

// P3.1: below 0 it is 0, above the limit that.
func TestNumOutside(t *testing.T) {
	for _, n := range []int{-1, -2, -128, -code.MaxNum, math.MinInt} {
		if got := code.Num([]byte("a"), n); string(got) != "a\x00" {
			t.Errorf("Num of %d: %x", n, got)
		}
	}
	for _, n := range []int{code.MaxNum + 1, 1 << 42, 1 << 62, math.MaxInt} {
		if got := code.Num([]byte("a"), n); string(got) != "a\x80\x80\x80\x80\x80\x20" {
			t.Errorf("Num of %d: %x", n, got)
		}
	}
}

// P3.1: how many bytes, and these; of a longer text the first 4096.
func TestText(t *testing.T) {
	for _, n := range []int{0, 1, 2, 127, 128, 300, 4095, 4096, 4097, 4224, 10000, 70000} {
		s := probe.Bytes(n)
		kept := min(n, 4096)
		want := append(binary.AppendUvarint([]byte("front"), uint64(kept)), s[:kept]...)
		if got := code.Text([]byte("front"), s); !bytes.Equal(got, want) {
			t.Errorf("Text of %d bytes: %d bytes, %x ..", n, len(got), got[:min(len(got), 10)])
		}
	}
	if got := code.Text(nil, nil); string(got) != "\x00" {
		t.Errorf("Text of nothing: %x", got)
	}
	if got := code.Text(nil, []byte("ab")); string(got) != "\x02ab" {
		t.Errorf("Text of ab: %x", got)
	}
}

// P3.1: whether b has no spare room, some, or enough is not to be seen in the answer.
func TestSpareRoomIsNotSeen(t *testing.T) {
	s := probe.Bytes(200)
	for room := range 220 {
		b := append(make([]byte, 0, 5+room), "front"...)
		if got := code.Text(b, s); string(got) != "front\xc8\x01"+string(s) || string(b) != "front" {
			t.Errorf("Text with room for %d: %x", room, got)
		}
		b = append(make([]byte, 0, 5+room), "front"...)
		if got := code.Num(b, 16384); string(got) != "front\x80\x80\x01" || string(b) != "front" {
			t.Errorf("Num with room for %d: %x", room, got)
		}
	}
}

// P3.1: a text that lies in b's spare room is written as it was handed in.
func TestTextInTheSpareRoom(t *testing.T) {
	for _, n := range []int{1, 5, 127, 128, 200} {
		for from := range 8 {
			room := make([]byte, 300)
			s := room[3+from : 3+from+n]
			copy(room, "abc")
			copy(s, probe.Bytes(n))
			want := append(binary.AppendUvarint([]byte("abc"), uint64(n)), probe.Bytes(n)...)
			if got := code.Text(room[:3], s); !bytes.Equal(got, want) {
				t.Errorf("Text of %d bytes, %d behind b: %x, not %x", n, from, got, want)
			}
		}
	}
}

// P2, rule 4: the front and the text are as they were, what lies around the text too.
func TestWritingLeavesArguments(t *testing.T) {
	for _, n := range []int{0, 1, 128, 4096, 4097} {
		room := probe.Bytes(5000)
		before := bytes.Clone(room)
		probe.Spoil(code.Text(nil, room[10:10+n]))
		probe.Spoil(code.Text([]byte{1, 2}[:2:2], room[10:10+n]))
		if !bytes.Equal(room, before) {
			t.Errorf("Text of %d bytes: its memory was changed", n)
		}
	}
	front := []byte("front")
	code.Num(front, 1<<40)
	code.Text(front, []byte("text"))
	if string(front) != "front" {
		t.Errorf("the front was changed: %q", front)
	}
}

// P1: any bytes and numbers are taken, and what is written is read as it was.
func FuzzThereAndBack(f *testing.F) {
	f.Add(0, []byte(nil), []byte(nil))
	f.Add(-1, []byte("front"), []byte("text"))
	f.Add(math.MaxInt, probe.Bytes(64), probe.Bytes(4097))
	f.Add(math.MinInt, probe.Bytes(1), probe.Bytes(4096))
	f.Fuzz(func(t *testing.T, n int, front, s []byte) {
		b := code.Text(code.Num(bytes.Clone(front), n), s)
		r := code.Read(b)
		for i := range front {
			if r.At() != i || r.Byte() != front[i] {
				t.Fatalf("the front at %d", i)
			}
		}
		if got := r.Num(); got != min(max(n, 0), code.MaxNum) {
			t.Errorf("Num %d: %d", n, got)
		}
		if got := r.Text(); !bytes.Equal(got, s[:min(len(s), code.MaxText)]) {
			t.Errorf("Text of %d bytes: %d", len(s), len(got))
		}
		if r.At() != len(b) || r.End() != nil || r.Err() != nil {
			t.Errorf("at %d of %d: %v", r.At(), len(b), r.End())
		}
	})
}
