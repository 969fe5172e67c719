package frame_test

import (
	"bytes"
	"encoding/binary"
	"math"
	"testing"

	"wharfinger/api"
	"wharfinger/frame"
	"wharfinger/probe"
)

// The calls keep the document's signatures, the limits their values.
var (
	_ func(frame.Frame) api.Errno                   = frame.Frame.Check
	_ func(frame.Frame, []byte) ([]byte, api.Errno) = frame.Frame.Append
	_ func([]byte) (frame.Frame, int, int, error)   = frame.Head
	_ func([]byte) (frame.Frame, int, error)        = frame.Read
	_ [31]struct{}                                  = [frame.MaxKind]struct{}{}
	_ [7]struct{}                                   = [frame.MaxStream]struct{}{}
	_ [16384]struct{}                               = [frame.MaxData]struct{}{}
)

// P4.1: each bound, and that the errors come in the document's order.
func TestCheck(t *testing.T) {
	long := make([]byte, 16385)
	for _, c := range []struct {
		kind, stream int
		data         []byte
		want         api.Errno
	}{
		{1, 0, nil, api.OK},
		{31, 7, long[:16384], api.OK},
		{1, 7, []byte{}, api.OK},
		{31, 0, []byte{1}, api.OK},
		{0, 0, nil, api.ErrKind},
		{32, 0, nil, api.ErrKind},
		{-1, 0, nil, api.ErrKind},
		{math.MinInt, 0, nil, api.ErrKind},
		{math.MaxInt, 0, nil, api.ErrKind},
		{257, 0, nil, api.ErrKind},
		{1, -1, nil, api.ErrRange},
		{1, 8, nil, api.ErrRange},
		{1, math.MinInt, nil, api.ErrRange},
		{1, math.MaxInt, nil, api.ErrRange},
		{1, 0, long, api.ErrLong},
		{31, 7, make([]byte, 100000), api.ErrLong},
		{0, 8, long, api.ErrKind},
		{32, -1, nil, api.ErrKind},
		{0, 0, long, api.ErrKind},
		{1, 8, long, api.ErrRange},
		{1, -1, long, api.ErrRange},
	} {
		f := frame.Frame{Kind: c.kind, Stream: c.stream, Data: c.data}
		if got := f.Check(); got != c.want {
			t.Errorf("Check of %d, %d, %d bytes: %d, not %d", c.kind, c.stream, len(c.data), got, c.want)
		}
		b, e := f.Append([]byte("front"))
		if e != c.want || e != api.OK && b != nil {
			t.Errorf("Append of %d, %d, %d bytes: %d, not %d; %d bytes", c.kind, c.stream, len(c.data), e, c.want, len(b))
		}
	}
}

// P4.2: the document's example.
func TestExample(t *testing.T) {
	f := frame.Frame{Kind: 3, Stream: 2, Data: []byte("x")}
	if b, e := f.Append(nil); e != api.OK || string(b) != "\x1a\x01x" {
		t.Errorf("Append: %x, %d", b, e)
	}
}

// P4.2, P4.3: every kind and stream, data of many lengths, there and back, with bytes ahead and behind.
func TestThereAndBack(t *testing.T) {
	for kind := 1; kind <= 31; kind++ {
		for stream := 0; stream <= 7; stream++ {
			for _, n := range []int{0, 1, 127, 128, 300, 16383, 16384} {
				f := frame.Frame{Kind: kind, Stream: stream, Data: probe.Bytes(n)}
				b, e := f.Append([]byte("front"))
				head := binary.AppendUvarint([]byte{byte(8*kind + stream)}, uint64(n))
				if e != api.OK || string(b) != "front"+string(head)+string(f.Data) {
					t.Fatalf("Append of %d, %d, %d bytes: %d", kind, stream, n, e)
				}
				all := append(b[5:], "\x08more"...)
				h, ahead, size, err := frame.Head(all)
				if h.Kind != kind || h.Stream != stream || h.Data != nil || ahead != len(head) || size != n || err != nil {
					t.Fatalf("Head of %d, %d, %d bytes: %v, %d, %d, %v", kind, stream, n, h, ahead, size, err)
				}
				g, whole, err := frame.Read(all)
				if !probe.SameFrame(f, g) || whole != len(head)+n || err != nil {
					t.Fatalf("Read of %d, %d, %d bytes: %d, %d, %d bytes, %d, %v", kind, stream, n, g.Kind, g.Stream, len(g.Data), whole, err)
				}
			}
		}
	}
}

// P4.2: whether b has no spare room, some, or enough is not to be seen in the answer.
func TestSpareRoomIsNotSeen(t *testing.T) {
	f := frame.Frame{Kind: 1, Stream: 3, Data: probe.Bytes(200)}
	for room := range 220 {
		b := append(make([]byte, 0, 5+room), "front"...)
		if got, _ := f.Append(b); string(got) != "front\x0b\xc8\x01"+string(f.Data) || string(b) != "front" {
			t.Errorf("Append with room for %d: %x", room, got)
		}
	}
}

// P4.2: data that lie in b's spare room are written as they were handed in.
func TestDataInTheSpareRoom(t *testing.T) {
	for _, n := range []int{1, 5, 127, 128, 200} {
		for from := range 8 {
			room := make([]byte, 300)
			data := room[3+from : 3+from+n]
			copy(room, "abc")
			copy(data, probe.Bytes(n))
			want := append(binary.AppendUvarint([]byte("abc\x08"), uint64(n)), probe.Bytes(n)...)
			if got, _ := (frame.Frame{Kind: 1, Data: data}).Append(room[:3]); !bytes.Equal(got, want) {
				t.Errorf("Append of %d bytes, %d behind b: %x, not %x", n, from, got, want)
			}
		}
	}
}

// P4.3: the wrong beginnings: Head's errors, which are Read's too.
func TestHeadWrong(t *testing.T) {
	for _, c := range []struct {
		in   string
		want api.Fault
	}{
		{"", api.Fault{At: 0, Err: api.ErrShort}},
		{"\x00", api.Fault{At: 0, Err: api.ErrKind}},
		{"\x07", api.Fault{At: 0, Err: api.ErrKind}},
		{"\x07\x00", api.Fault{At: 0, Err: api.ErrKind}},
		{"\x07\x80\x00", api.Fault{At: 0, Err: api.ErrKind}},
		{"\x01\x81\x80\x01", api.Fault{At: 0, Err: api.ErrKind}},
		{"\x08", api.Fault{At: 1, Err: api.ErrShort}},
		{"\xff", api.Fault{At: 1, Err: api.ErrShort}},
		{"\x08\x80", api.Fault{At: 2, Err: api.ErrShort}},
		{"\x08\x80\x80\x80\x80\x80\x80", api.Fault{At: 7, Err: api.ErrShort}},
		{"\x08\x80\x00", api.Fault{At: 1, Err: api.ErrForm}},
		{"\x08\x80\x80\x80\x80\x80\x80\x01", api.Fault{At: 1, Err: api.ErrForm}},
		{"\x08\x81\x80\x80\x80\x80\x20", api.Fault{At: 1, Err: api.ErrRange}},
		{"\x08\x81\x80\x01", api.Fault{At: 1, Err: api.ErrLong}},
		{"\xff\x80\x80\x80\x80\x80\x20", api.Fault{At: 1, Err: api.ErrLong}},
		{"\x08\x81\x80\x01" + string(make([]byte, 20000)), api.Fault{At: 1, Err: api.ErrLong}},
	} {
		f, ahead, size, err := frame.Head([]byte(c.in))
		if probe.Fault(err) != c.want || f.Kind != 0 || f.Stream != 0 || f.Data != nil || ahead != 0 || size != 0 {
			t.Errorf("Head of %.10x: %v, %d, %d, %v, not %v", c.in, f, ahead, size, err, c.want.Error())
		}
		f, whole, err := frame.Read([]byte(c.in))
		if probe.Fault(err) != c.want || f.Kind != 0 || f.Stream != 0 || f.Data != nil || whole != 0 {
			t.Errorf("Read of %.10x: %v, %d, %v, not %v", c.in, f, whole, err, c.want.Error())
		}
	}
}

// P4.3: Head doesn't look whether the data are there; Read does.
func TestCutShort(t *testing.T) {
	for _, n := range []int{1, 2, 127, 128, 16384} {
		whole, _ := frame.Frame{Kind: 9, Stream: 4, Data: probe.Bytes(n)}.Append(nil)
		start := len(whole) - n
		for _, there := range []int{0, n / 2, n - 1} {
			b := whole[:start+there]
			f, ahead, size, err := frame.Head(b)
			if f.Kind != 9 || f.Stream != 4 || f.Data != nil || ahead != start || size != n || err != nil {
				t.Errorf("Head, %d of %d bytes: %v, %d, %d, %v", there, n, f, ahead, size, err)
			}
			f, all, err := frame.Read(b)
			if probe.Fault(err) != (api.Fault{At: len(b), Err: api.ErrShort}) || f.Kind != 0 || f.Stream != 0 || f.Data != nil || all != 0 {
				t.Errorf("Read, %d of %d bytes: %d, %d, %v", there, n, f.Kind, all, err)
			}
		}
	}
	if f, n, err := frame.Read([]byte("\x08\x00")); f.Kind != 1 || len(f.Data) != 0 || n != 2 || err != nil {
		t.Errorf("Read of no data: %v, %d, %v", f, n, err)
	}
}

// P2, rule 4: what is handed in is as it was, its spare room too; what is answered is new memory.
func TestNothingIsShared(t *testing.T) {
	room := probe.Bytes(400)
	before := bytes.Clone(room)
	f := frame.Frame{Kind: 1, Data: room[100:300]}
	f.Check()
	for _, b := range [][]byte{nil, {}, []byte("front")[:5:5]} {
		got, _ := f.Append(b)
		probe.Spoil(got)
	}
	if !bytes.Equal(room, before) {
		t.Error("Append changed the data's memory, or answered it")
	}
	for _, n := range []int{0, 1, 100} {
		b, _ := frame.Frame{Kind: 2, Data: probe.Bytes(n)}.Append(nil)
		b = append(b, "behind"...)
		before := bytes.Clone(b)
		g, whole, _ := frame.Read(b)
		h, _, _ := frame.Read(b)
		probe.Spoil(g.Data)
		if !bytes.Equal(b, before) || !bytes.Equal(h.Data, probe.Bytes(n)) || whole != len(b)-6 {
			t.Errorf("Read of %d bytes: the answer shares memory", n)
		}
	}
	// A refused Append has written nothing, not even into the spare room.
	spare := []byte("front and room")
	frame.Frame{Kind: 1, Stream: 8, Data: []byte("xx")}.Append(spare[:5])
	if string(spare) != "front and room" {
		t.Errorf("a refused Append wrote: %q", spare)
	}
}

// P2, rule 4: an error that was written into isn't kept.
func TestErrorsAreNew(t *testing.T) {
	for _, in := range []string{"", "\x07", "\x08\x80\x00", "\x08\x81\x80\x01", "\x08\x02x"} {
		if !probe.NewFaults(func() error { _, _, err := frame.Read([]byte(in)); return err }) {
			t.Errorf("Read of %x", in)
		}
	}
}

// headOf reads a head as the document words it.
func headOf(b []byte) (kind, stream, ahead, size int, fault api.Fault) {
	fail := func(at int, e api.Errno) (int, int, int, int, api.Fault) {
		return 0, 0, 0, 0, api.Fault{At: at, Err: e}
	}
	if len(b) == 0 {
		return fail(0, api.ErrShort)
	}
	if b[0] < 8 {
		return fail(0, api.ErrKind)
	}
	count := 1 // how many digits the number has
	for count < 7 && count < len(b) && b[count] >= 128 {
		count++
	}
	switch {
	case count >= len(b):
		return fail(len(b), api.ErrShort)
	case count == 7 || count > 1 && b[count] == 0:
		return fail(1, api.ErrForm)
	}
	for i := count; i > 0; i-- {
		size = size*128 + int(b[i]&127)
	}
	switch {
	case size > 1<<40:
		return fail(1, api.ErrRange)
	case size > 16384:
		return fail(1, api.ErrLong)
	}
	return int(b[0] >> 3), int(b[0] & 7), count + 1, size, api.Fault{}
}

// P1, P4.3: any bytes are read as the document words it.
func FuzzAnyBytes(f *testing.F) {
	for _, s := range []string{"", "\x07", "\x1a\x01x", "\x1a\x02x", "\x08\x80\x00", "\x08\x80\x80\x80\x80\x80\x80\x01", "\x08\x81\x80\x80\x80\x80\x20", "\x08\x81\x80\x01", "\xff\x00\xff"} {
		f.Add([]byte(s))
	}
	f.Add(append([]byte("\xff\x80\x80\x01"), probe.Bytes(16384)...))
	f.Fuzz(func(t *testing.T, b []byte) {
		before := bytes.Clone(b)
		kind, stream, ahead, size, fault := headOf(b)
		h, a, n, err := frame.Head(b)
		if h.Kind != kind || h.Stream != stream || h.Data != nil || a != ahead || n != size || probe.Fault(err) != fault {
			t.Errorf("Head: %v, %d, %d, %v", h, a, n, err)
		}
		if err == nil && ahead+size > len(b) {
			kind, stream, ahead, size, fault = 0, 0, 0, 0, api.Fault{At: len(b), Err: api.ErrShort}
		}
		g, whole, err := frame.Read(b)
		if g.Kind != kind || g.Stream != stream || !bytes.Equal(g.Data, b[ahead:ahead+size]) || whole != ahead+size || probe.Fault(err) != fault {
			t.Errorf("Read: %v, %d, %v", g, whole, err)
		}
		if err == nil {
			if again, e := g.Append(nil); e != api.OK || !bytes.Equal(again, b[:whole]) {
				t.Errorf("Append of what was read: %x, %d", again, e)
			}
		}
		if !bytes.Equal(b, before) {
			t.Error("the bytes were changed")
		}
	})
}

// P4.3: every short row of bytes that matter.
func TestEveryShortRow(t *testing.T) {
	signs := []byte{0, 1, 2, 7, 8, 0x20, 0x7f, 0x80, 0x81, 0xff}
	for row := range probe.Rows(signs, 5) {
		kind, stream, ahead, size, fault := headOf(row)
		h, a, n, err := frame.Head(row)
		if h.Kind != kind || h.Stream != stream || h.Data != nil || a != ahead || n != size || probe.Fault(err) != fault {
			t.Fatalf("Head of %x: %v, %d, %d, %v", row, h, a, n, err)
		}
	}
}

// P1: frames of any shape are taken.
func FuzzAnyFrame(f *testing.F) {
	f.Add(1, 0, []byte(nil), []byte(nil))
	f.Add(31, 7, probe.Bytes(16384), []byte("front"))
	f.Add(math.MinInt, math.MaxInt, probe.Bytes(16385), []byte{})
	f.Add(math.MaxInt, -1, []byte("x"), []byte("y"))
	f.Fuzz(func(t *testing.T, kind, stream int, data, front []byte) {
		x := frame.Frame{Kind: kind, Stream: stream, Data: data}
		want := api.OK
		if len(data) > 16384 {
			want = api.ErrLong
		}
		if stream < 0 || stream > 7 {
			want = api.ErrRange
		}
		if kind < 1 || kind > 31 {
			want = api.ErrKind
		}
		b, e := x.Append(bytes.Clone(front))
		if x.Check() != want || e != want {
			t.Fatalf("Check: %d, Append: %d, not %d", x.Check(), e, want)
		}
		if want != api.OK {
			if b != nil {
				t.Errorf("bytes beside an error: %x", b)
			}
			return
		}
		g, n, err := frame.Read(b[len(front):])
		if !bytes.Equal(b[:len(front)], front) || !probe.SameFrame(x, g) || n != len(b)-len(front) || err != nil {
			t.Errorf("there and back: %v, %d, %v", g, n, err)
		}
	})
}
