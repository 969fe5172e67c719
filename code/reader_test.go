package code_test

import (
	"bytes"
	"errors"
	"strings"
	"testing"

	"wharfinger/api"
	"wharfinger/code"
	"wharfinger/probe"
)

// stuck: the reader has this error, answers zero, and keeps the error.
func stuck(t *testing.T, what string, r *code.Reader, want api.Fault) {
	t.Helper()
	for range 3 {
		if got := probe.Fault(r.Err()); got != want {
			t.Errorf("%s: %v, not %v", what, got.Error(), want.Error())
		}
		if r.Byte() != 0 || r.Num() != 0 || len(r.Text()) != 0 || r.Sum() != (api.Sum{}) {
			t.Errorf("%s: something was read behind the error", what)
		}
		if got := probe.Fault(r.End()); got != want {
			t.Errorf("%s: End: %v, not %v", what, got.Error(), want.Error())
		}
	}
}

// P3.2, Byte: one after the other, then ErrShort at the end.
func TestByte(t *testing.T) {
	for _, n := range []int{0, 1, 2, 50} {
		b := probe.Bytes(n)
		r := code.Read(b)
		for i, x := range b {
			if r.At() != i || r.Byte() != x || r.Err() != nil {
				t.Errorf("byte %d of %d", i, n)
			}
		}
		if r.At() != n || r.End() != nil {
			t.Errorf("%d bytes: at %d, %v", n, r.At(), r.End())
		}
		if r.Byte() != 0 {
			t.Errorf("%d bytes: one more", n)
		}
		stuck(t, "a byte too many", r, api.Fault{At: n, Err: api.ErrShort})
	}
}

// P3.2, Num: what Num writes is read, with bytes ahead of it and behind it.
func TestNumRead(t *testing.T) {
	for _, n := range inRange() {
		b := code.Num([]byte("xy"), n)
		end := len(b)
		r := code.Read(append(b, 0, 0x80))
		r.Byte()
		r.Byte()
		if got := r.Num(); got != n || r.At() != end || r.Err() != nil {
			t.Errorf("Num %d: %d, at %d of %d, %v", n, got, r.At(), end, r.Err())
		}
		if r.Num() != 0 || r.At() != end+1 || r.Err() != nil {
			t.Errorf("behind Num %d: %v", n, r.Err())
		}
	}
}

// P3.2, Num: the wrong ones, with their places, behind a front of two bytes.
func TestNumWrong(t *testing.T) {
	for _, c := range []struct {
		in   string
		want api.Fault
	}{
		{"", api.Fault{At: 2, Err: api.ErrShort}},
		{"\x80", api.Fault{At: 3, Err: api.ErrShort}},
		{"\xff\xff", api.Fault{At: 4, Err: api.ErrShort}},
		{"\xff\xff\xff\xff\xff", api.Fault{At: 7, Err: api.ErrShort}},
		{"\x80\x80\x80\x80\x80\x80", api.Fault{At: 8, Err: api.ErrShort}},
		{"\xff\xff\xff\xff\xff\xff", api.Fault{At: 8, Err: api.ErrShort}},
		{"\x80\x00", api.Fault{At: 2, Err: api.ErrForm}},
		{"\x81\x00", api.Fault{At: 2, Err: api.ErrForm}},
		{"\xff\x80\x00\x05", api.Fault{At: 2, Err: api.ErrForm}},
		{"\x80\x80\x80\x80\x80\x00", api.Fault{At: 2, Err: api.ErrForm}},
		{"\x80\x80\x80\x80\x80\x80\x00", api.Fault{At: 2, Err: api.ErrForm}},
		{"\x80\x80\x80\x80\x80\x80\x01", api.Fault{At: 2, Err: api.ErrForm}},
		{"\xff\xff\xff\xff\xff\xff\xff", api.Fault{At: 2, Err: api.ErrForm}},
		{"\xff\xff\xff\xff\xff\xff\xff\xff\xff\xff\xff\xff\x01", api.Fault{At: 2, Err: api.ErrForm}},
		{"\x81\x80\x80\x80\x80\x20", api.Fault{At: 2, Err: api.ErrRange}},
		{"\x80\x80\x80\x80\x80\x21", api.Fault{At: 2, Err: api.ErrRange}},
		{"\xff\xff\xff\xff\xff\x7f", api.Fault{At: 2, Err: api.ErrRange}},
		{"\xff\xff\xff\xff\xff\x7f\x00", api.Fault{At: 2, Err: api.ErrRange}},
	} {
		r := code.Read([]byte("\x01\x02" + c.in))
		if r.Num() != 1 || r.Byte() != 2 {
			t.Error("the front")
		}
		if r.Num() != 0 {
			t.Errorf("Num of %x isn't zero", c.in)
		}
		stuck(t, "Num", r, c.want)
		// The same bytes where a text should be: Num's error comes first.
		r = code.Read([]byte("\x01\x02" + c.in))
		r.Byte()
		r.Byte()
		if len(r.Text()) != 0 {
			t.Errorf("Text of %x isn't zero", c.in)
		}
		stuck(t, "Text", r, c.want)
	}
}

// P3.2, Num: digits that are 0 are no fault where another one follows.
func TestNumInnerNoughts(t *testing.T) {
	r := code.Read([]byte("\x80\x80\x01\x00\x80\x80\x80\x80\x80\x20"))
	if a, b, c := r.Num(), r.Num(), r.Num(); a != 16384 || b != 0 || c != code.MaxNum || r.End() != nil {
		t.Errorf("%d, %d, %d: %v", a, b, c, r.End())
	}
}

// P3.2, Text: what Text writes is read.
func TestTextRead(t *testing.T) {
	for _, n := range []int{0, 1, 127, 128, 4095, 4096} {
		s := probe.Bytes(n)
		b := code.Text([]byte{7}, s)
		end := len(b)
		r := code.Read(append(b, 5))
		r.Byte()
		if got := r.Text(); !bytes.Equal(got, s) || r.At() != end || r.Err() != nil {
			t.Errorf("Text of %d bytes: %d, at %d of %d, %v", n, len(got), r.At(), end, r.Err())
		}
		if r.Byte() != 5 || r.End() != nil {
			t.Errorf("behind a Text of %d bytes: %v", n, r.End())
		}
	}
}

// P3.2, Text: too long at its first byte, whether the bytes are there or not; too short at the end.
func TestTextWrong(t *testing.T) {
	for _, n := range []int{4097, 5000, code.MaxNum} {
		for _, there := range []int{0, 1, 4096, 5000} {
			b := append(code.Num([]byte{1, 2, 3}, n), make([]byte, there)...)
			r := code.Read(b)
			r.Byte()
			r.Byte()
			r.Byte()
			if len(r.Text()) != 0 {
				t.Error("too long a text")
			}
			stuck(t, "too long a text", r, api.Fault{At: 3, Err: api.ErrLong})
		}
	}
	for _, n := range []int{1, 2, 127, 128, 4096} {
		for _, there := range []int{0, n / 2, n - 1} {
			b := append(code.Num([]byte{1}, n), probe.Bytes(there)...)
			r := code.Read(b)
			r.Byte()
			if len(r.Text()) != 0 {
				t.Error("a text cut short")
			}
			stuck(t, "a text cut short", r, api.Fault{At: len(b), Err: api.ErrShort})
		}
	}
}

// P3.2, Sum: 32 bytes, or ErrShort at the end.
func TestSum(t *testing.T) {
	b := probe.Bytes(70)
	r := code.Read(b)
	r.Byte()
	if r.Sum() != api.Sum(b[1:33]) || r.At() != 33 || r.Sum() != api.Sum(b[33:65]) || r.At() != 65 || r.Err() != nil {
		t.Errorf("two sums: at %d, %v", r.At(), r.Err())
	}
	if r.Sum() != (api.Sum{}) {
		t.Error("five bytes of a sum")
	}
	stuck(t, "five bytes of a sum", r, api.Fault{At: 70, Err: api.ErrShort})
	for n := range 34 {
		r := code.Read(probe.Bytes(n))
		got := r.Sum()
		if n >= 32 {
			if got != api.Sum(probe.Bytes(n)[:32]) || r.Err() != nil || r.At() != 32 {
				t.Errorf("Sum of %d bytes: %v", n, r.Err())
			}
			continue
		}
		if got != (api.Sum{}) {
			t.Errorf("Sum of %d bytes: %x", n, got)
		}
		stuck(t, "Sum", r, api.Fault{At: n, Err: api.ErrShort})
	}
}

// P3.2: once there is an error nothing is read, though bytes that could be are there.
func TestErrorStays(t *testing.T) {
	r := code.Read([]byte("\x80\x00" + strings.Repeat("\x01", 100)))
	r.Num()
	stuck(t, "behind a wrong number", r, api.Fault{At: 0, Err: api.ErrForm})
	r = code.Read(make([]byte, 31))
	r.Sum()
	stuck(t, "behind a short sum", r, api.Fault{At: 31, Err: api.ErrShort})
	r = code.Read([]byte("\x05abcd"))
	r.Text()
	stuck(t, "behind a short text", r, api.Fault{At: 5, Err: api.ErrShort})
}

// P3.3: End at the end is nil, again and again; with bytes left it is the error from then on.
func TestEnd(t *testing.T) {
	for _, b := range [][]byte{nil, {}} {
		r := code.Read(b)
		if r.At() != 0 || r.End() != nil || r.Err() != nil || r.End() != nil || r.At() != 0 {
			t.Error("End of nothing")
		}
	}
	for n := 1; n < 5; n++ {
		for read := range n {
			r := code.Read(make([]byte, n))
			for range read {
				r.Byte()
			}
			if r.Err() != nil {
				t.Errorf("%d of %d: Err ahead of End", read, n)
			}
			if got, want := probe.Fault(r.End()), (api.Fault{At: read, Err: api.ErrForm}); got != want {
				t.Errorf("End at %d of %d: %v", read, n, got.Error())
			}
			stuck(t, "behind End", r, api.Fault{At: read, Err: api.ErrForm})
		}
	}
	r := code.Read([]byte("\x01"))
	r.Byte()
	if r.End() != nil || r.Byte() != 0 {
		t.Error("End at the end")
	}
	stuck(t, "behind the end", r, api.Fault{At: 1, Err: api.ErrShort})
}

// P3.3: the error wraps its number.
func TestErrWraps(t *testing.T) {
	r := code.Read(nil)
	r.Byte()
	if !errors.Is(r.Err(), api.ErrShort) || errors.Is(r.Err(), api.ErrForm) {
		t.Errorf("Err: %v", r.Err())
	}
}

// P2, rule 4: a text and an error that were answered are new memory; what was handed in is as it was.
func TestReadingSharesNothing(t *testing.T) {
	room := append(code.Text(code.Text(nil, []byte("one")), []byte("two")), "spare"...)
	before := bytes.Clone(room)
	r := code.Read(room[:8])
	one := r.Text()
	probe.Spoil(one)
	two := r.Text()
	if string(two) != "two" || !bytes.Equal(room, before) {
		t.Errorf("the second text: %q; the bytes: %q", two, room)
	}
	r.Sum()
	r.Num()
	r.End()
	if !bytes.Equal(room, before) {
		t.Errorf("the bytes were changed: %q", room)
	}
	r.Err().(*api.Fault).At = 77
	r.End().(*api.Fault).Err = api.OK
	stuck(t, "an error that was written into", r, api.Fault{At: 8, Err: api.ErrShort})
}

// P2, rule 4: two readers of the same bytes go each its own way.
func TestReadersApart(t *testing.T) {
	b := []byte("\x01\x02\x80")
	one, two := code.Read(b), code.Read(b)
	one.Byte()
	one.Num()
	one.Num()
	if one.Err() == nil || two.Err() != nil || two.At() != 0 || two.Num() != 1 {
		t.Error("one reader is to be seen in the other")
	}
}

// model reads as the document words it, from a text that grows shorter.
type model struct {
	all, rest string
	fault     api.Fault
}

func (m *model) at() int { return len(m.all) - len(m.rest) }

func (m *model) fail(at int, e api.Errno) {
	if m.fault.Err == api.OK {
		m.fault = api.Fault{At: at, Err: e}
	}
}

func (m *model) bytes(n int) string {
	if m.fault.Err == api.OK && len(m.rest) < n {
		m.fail(len(m.all), api.ErrShort)
	}
	if m.fault.Err != api.OK {
		return ""
	}
	s := m.rest[:n]
	m.rest = m.rest[n:]
	return s
}

func (m *model) num() int {
	start, n, unit := m.at(), 0, 1
	for count := 1; ; count++ {
		s := m.bytes(1)
		if s == "" {
			return 0
		}
		if count > 6 || count > 1 && s[0] == 0 {
			m.fail(start, api.ErrForm)
			return 0
		}
		n += int(s[0]&127) * unit
		unit *= 128
		if s[0]&128 == 0 {
			break
		}
	}
	if n > 1<<40 {
		m.fail(start, api.ErrRange)
		return 0
	}
	return n
}

func (m *model) text() string {
	start := m.at()
	n := m.num()
	if n > 4096 {
		m.fail(start, api.ErrLong)
	}
	return m.bytes(n)
}

func (m *model) sum() api.Sum {
	s := m.bytes(32)
	if s == "" {
		return api.Sum{}
	}
	return api.Sum([]byte(s))
}

func (m *model) end() {
	if m.rest != "" {
		m.fail(m.at(), api.ErrForm)
	}
}

// P1, P3.2, P3.3: any bytes, read by any calls, are read as the document words it.
func FuzzReader(f *testing.F) {
	f.Add([]byte("abc"), []byte("\x01\x02abc\xac\x02"))
	f.Add([]byte("nnnnnn"), []byte("\x00\x80\x01\xff\xff\xff\xff\xff\x7f\x80\x00"))
	f.Add([]byte("tts"), append([]byte("\x03abc\x00"), probe.Bytes(40)...))
	f.Add([]byte("st"), append(probe.Bytes(32), code.Num(nil, 4097)...))
	f.Add([]byte("bent"), []byte("\x01\x02"))
	f.Add([]byte("nt"), []byte("\x80\x80\x80\x80\x80\x80"))
	f.Fuzz(func(t *testing.T, calls, b []byte) {
		before := bytes.Clone(b)
		r, m := code.Read(b), &model{all: string(b), rest: string(b)}
		for i, call := range calls {
			same := true
			switch call % 5 {
			case 0:
				same = r.Num() == m.num()
			case 1:
				same = string(r.Text()) == m.text()
			case 2:
				same = r.Sum() == m.sum()
			case 3:
				x, s := r.Byte(), m.bytes(1)
				same = s == "" && x == 0 || s != "" && x == s[0]
			case 4:
				m.end()
				same = probe.Fault(r.End()) == m.fault
			}
			if !same || probe.Fault(r.Err()) != m.fault || m.fault.Err == api.OK && r.At() != m.at() {
				t.Fatalf("call %d, %d: at %d, %v", i, call%5, r.At(), r.Err())
			}
		}
		if !bytes.Equal(b, before) {
			t.Error("the bytes were changed")
		}
	})
}

// P3.2: every short row of bytes that matter, read by every call.
func TestEveryShortRow(t *testing.T) {
	signs := []byte{0, 1, 2, 0x20, 0x21, 0x7f, 0x80, 0xff}
	for row := range probe.Rows(signs, 5) {
		m := &model{all: string(row), rest: string(row)}
		r := code.Read(row)
		if r.Num() != m.num() || probe.Fault(r.Err()) != m.fault {
			t.Fatalf("Num of %x: %v", row, r.Err())
		}
		m = &model{all: string(row), rest: string(row)}
		r = code.Read(row)
		if string(r.Text()) != m.text() || probe.Fault(r.Err()) != m.fault {
			t.Fatalf("Text of %x: %v", row, r.Err())
		}
	}
}
