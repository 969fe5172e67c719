package feed_test

import (
	"bytes"
	"errors"
	"slices"
	"testing"

	"wharfinger/api"
	"wharfinger/code"
	"wharfinger/feed"
	"wharfinger/frame"
	"wharfinger/probe"
)

// The calls keep the document's signatures, the limit its value.
var (
	_ func(*feed.Feed, []byte) []frame.Frame = (*feed.Feed).Add
	_ func(*feed.Feed) int                   = (*feed.Feed).Held
	_ func(*feed.Feed) int                   = (*feed.Feed).Read
	_ func(*feed.Feed) error                 = (*feed.Feed).Err
	_ func(*feed.Feed) error                 = (*feed.Feed).End
	_ [16391]struct{}                        = [feed.MaxHeld]struct{}{}
)

// model has all that came at once, and looks at it from its first byte on each time.
type model struct {
	all   []byte
	told  int // how many frames were answered
	fault api.Fault
}

func (m *model) add(b []byte) []frame.Frame {
	if m.fault.Err != api.OK {
		return nil
	}
	m.all = append(m.all, b...)
	list, read, err := m.look()
	if number := code.Number(err); number != api.ErrShort {
		m.fault = api.Fault{At: read + code.Place(err), Err: number}
	}
	fresh := list[m.told:]
	m.told = len(list)
	return fresh
}

// look: the frames of all that came, how many bytes they have, and why there are no more.
func (m *model) look() (list []frame.Frame, read int, err error) {
	for {
		f, n, err := frame.Read(m.all[read:])
		if err != nil {
			return list, read, err
		}
		list = append(list, f)
		read += n
	}
}

// state is what a feed tells of itself.
type state struct {
	held, read int
	err, end   api.Fault
}

func (m *model) state() state {
	_, read, _ := m.look()
	if m.fault.Err != api.OK {
		return state{read: read, err: m.fault, end: m.fault}
	}
	s := state{held: len(m.all) - read, read: read}
	if s.held > 0 {
		s.end = api.Fault{At: len(m.all), Err: api.ErrShort}
	}
	return s
}

func stateOf(f *feed.Feed) state {
	return state{f.Held(), f.Read(), probe.Fault(f.Err()), probe.Fault(f.End())}
}

// pair is a feed with its model.
type pair struct {
	f feed.Feed
	m model
}

// add adds to both; they must answer the same, and be in the same state.
func (p *pair) add(t *testing.T, b []byte) {
	t.Helper()
	got, want := p.f.Add(b), p.m.add(b)
	if !slices.EqualFunc(got, want, probe.SameFrame) {
		t.Fatalf("%d bytes behind %d: %d frames, not %d, or other ones", len(b), len(p.m.all)-len(b), len(got), len(want))
	}
	if got, want := stateOf(&p.f), p.m.state(); got != want || got.held > 16391 {
		t.Fatalf("%d bytes behind %d: %v, not %v", len(b), len(p.m.all)-len(b), got, want)
	}
}

// bytesOf: frames as bytes, one behind the other.
func bytesOf(list ...frame.Frame) []byte {
	var b []byte
	for _, f := range list {
		b, _ = f.Append(b)
	}
	return b
}

// some: frames of many kinds and lengths.
func some() []frame.Frame {
	var list []frame.Frame
	for i, n := range []int{0, 1, 2, 0, 127, 128, 300, 0, 0, 5} {
		list = append(list, frame.Frame{Kind: 1 + 3*i, Stream: i % 8, Data: probe.Bytes(n)})
	}
	return list
}

// P5.1: the document's example.
func TestExample(t *testing.T) {
	var f feed.Feed
	if got := f.Add([]byte{26}); len(got) != 0 || f.Held() != 1 || f.Read() != 0 {
		t.Errorf("26: %v, %d held, %d read", got, f.Held(), f.Read())
	}
	got := f.Add([]byte("\x01xy"))
	if len(got) != 1 || !probe.SameFrame(got[0], frame.Frame{Kind: 3, Stream: 2, Data: []byte("x")}) || f.Held() != 1 || f.Read() != 3 {
		t.Errorf("1, x, y: %v, %d held, %d read", got, f.Held(), f.Read())
	}
}

// P5.1, P5.2: to the zero Feed nothing came, and by nothing that comes nothing changes.
func TestNothingCame(t *testing.T) {
	var f feed.Feed
	for range 3 {
		if stateOf(&f) != (state{}) || f.Err() != nil || f.End() != nil {
			t.Errorf("nothing came: %v", stateOf(&f))
		}
		if len(f.Add(nil)) != 0 || len(f.Add([]byte{})) != 0 {
			t.Error("a frame of nothing")
		}
	}
	f.Add([]byte("\x08\x02x"))
	want := stateOf(&f)
	if len(f.Add(nil)) != 0 || len(f.Add([]byte{})) != 0 || stateOf(&f) != want {
		t.Errorf("nothing behind half a frame: %v, not %v", stateOf(&f), want)
	}
}

// P5.1: frames come whole and in order, whatever pieces their bytes come in.
func TestPieces(t *testing.T) {
	list := some()
	all := bytesOf(list...)
	for size := 1; size <= len(all); size++ {
		var p pair
		for piece := range slices.Chunk(all, size) {
			p.add(t, piece)
		}
		if p.m.told != len(list) || p.f.Read() != len(all) || p.f.Held() != 0 || p.f.End() != nil {
			t.Fatalf("pieces of %d: %d frames, %v", size, p.m.told, stateOf(&p.f))
		}
	}
}

// P5.1: a frame is answered by the Add that brings its last byte, with those behind it that are whole.
func TestTwoPieces(t *testing.T) {
	all := bytesOf(some()...)
	for cut := range len(all) + 1 {
		var p pair
		p.add(t, all[:cut])
		p.add(t, all[cut:])
	}
}

// P5.1: more than a feed may hold comes at once.
func TestManyAtOnce(t *testing.T) {
	var list []frame.Frame
	for i := range 20 {
		list = append(list, frame.Frame{Kind: 31, Stream: 7, Data: probe.Bytes(16384 - i)}, frame.Frame{Kind: 1})
	}
	all := bytesOf(list...)
	for _, rest := range []int{0, 1, 2, 3, 16000} {
		var p pair
		p.add(t, all[:len(all)-rest])
		p.add(t, all[len(all)-rest:])
		if p.m.told != len(list) {
			t.Errorf("%d bytes later: %d frames", rest, p.m.told)
		}
	}
}

// P5.1: as much as can be held: all but the last byte of the greatest frame, and of the longest head.
func TestMuchIsHeld(t *testing.T) {
	whole := bytesOf(frame.Frame{Kind: 9, Stream: 1, Data: probe.Bytes(16384)})
	var p pair
	for _, x := range whole[:300] {
		p.add(t, []byte{x})
	}
	p.add(t, whole[300:len(whole)-1])
	if p.f.Held() != 4+16383 {
		t.Errorf("%d held", p.f.Held())
	}
	p.add(t, append(whole[len(whole)-1:], 8))
	if p.f.Held() != 1 || p.f.Read() != 4+16384 {
		t.Errorf("behind it: %v", stateOf(&p.f))
	}
	var head pair
	head.add(t, []byte("\x08\x80\x80\x80\x80\x80\x80"))
	if head.f.Held() != 7 || head.f.Err() != nil {
		t.Errorf("a head of seven bytes: %v", stateOf(&head.f))
	}
}

// wrong: what no frame begins with, and layer 4's Fault of it.
func wrong() map[string]api.Fault {
	return map[string]api.Fault{
		"\x00":                             {At: 0, Err: api.ErrKind},
		"\x07":                             {At: 0, Err: api.ErrKind},
		"\x08\x80\x00":                     {At: 1, Err: api.ErrForm},
		"\xff\x80\x80\x80\x80\x80\x80\x80": {At: 1, Err: api.ErrForm},
		"\x08\x80\x80\x80\x80\x80\x80\x01": {At: 1, Err: api.ErrForm},
		"\x08\x81\x80\x80\x80\x80\x20":     {At: 1, Err: api.ErrRange},
		"\x08\x81\x80\x01":                 {At: 1, Err: api.ErrLong},
		"\x08\x80\x80\x80\x80\x80\x20":     {At: 1, Err: api.ErrLong},
	}
}

// P5.1: another error than ErrShort is the feed's from then on, its place counted in all that came.
func TestWrong(t *testing.T) {
	for _, front := range [][]byte{nil, bytesOf(frame.Frame{Kind: 1}), bytesOf(some()...)} {
		for bad, fault := range wrong() {
			all := slices.Concat(front, []byte(bad), []byte("\x08\x00behind"))
			want := api.Fault{At: len(front) + fault.At, Err: fault.Err}
			for _, size := range []int{1, 2, 3, len(front) + 1, len(all)} {
				var p pair
				for piece := range slices.Chunk(all, size) {
					p.add(t, piece)
				}
				if got := stateOf(&p.f); got != (state{read: len(front), err: want, end: want}) {
					t.Errorf("%x behind %d bytes, pieces of %d: %v, not %v", bad, len(front), size, got, want)
				}
			}
		}
	}
}

// P5.1: it is told as soon as the bytes that show it are there, not earlier.
func TestWrongAtOnce(t *testing.T) {
	for bad, fault := range wrong() {
		var f feed.Feed
		f.Add([]byte("\x08\x01x" + bad[:len(bad)-1]))
		if f.Err() != nil || f.Held() != len(bad)-1 {
			t.Errorf("%x but its last byte: %v", bad, stateOf(&f))
		}
		if got := f.Add([]byte(bad[len(bad)-1:])); len(got) != 0 || probe.Fault(f.Err()) != (api.Fault{At: 3 + fault.At, Err: fault.Err}) || f.Held() != 0 {
			t.Errorf("%x: %v", bad, stateOf(&f))
		}
	}
}

// P5.1: once there is an error nothing comes any more, and it stays.
func TestErrorStays(t *testing.T) {
	var f feed.Feed
	if got := f.Add([]byte("\x08\x00\x10\x01x\x03\x08\x00")); len(got) != 2 || got[0].Kind != 1 || got[1].Kind != 2 {
		t.Errorf("the frames ahead: %v", got)
	}
	want := state{read: 5, err: api.Fault{At: 5, Err: api.ErrKind}, end: api.Fault{At: 5, Err: api.ErrKind}}
	for _, more := range []string{"", "\x08\x00", "\x08", "\x07", "\x08\x80\x00", string(bytesOf(some()...))} {
		if got := f.Add([]byte(more)); len(got) != 0 || stateOf(&f) != want {
			t.Errorf("%.10x behind the error: %v, %v", more, got, stateOf(&f))
		}
	}
	if !errors.Is(f.Err(), api.ErrKind) || !errors.Is(f.End(), api.ErrKind) {
		t.Errorf("the error wraps no number: %v, %v", f.Err(), f.End())
	}
}

// P5.2: half a frame is short at the end of all that came; it may still become whole.
func TestEnd(t *testing.T) {
	front := bytesOf(some()...)
	last := bytesOf(frame.Frame{Kind: 5, Data: probe.Bytes(130)})
	for there := range len(last) {
		var f feed.Feed
		f.Add(front)
		f.Add(last[:there])
		var want api.Fault
		if there > 0 {
			want = api.Fault{At: len(front) + there, Err: api.ErrShort}
		}
		for range 3 {
			if got := stateOf(&f); got != (state{held: there, read: len(front), end: want}) {
				t.Errorf("%d bytes of the last frame: %v", there, got)
			}
		}
		if got := f.Add(last[there:]); len(got) != 1 || f.End() != nil || f.Err() != nil {
			t.Errorf("the rest behind %d bytes: %v", there, stateOf(&f))
		}
	}
}

// P2, rule 4: what is handed in is as it was, its spare room too, and isn't kept.
func TestArgumentsStay(t *testing.T) {
	all := bytesOf(some()...)
	for cut := range len(all) {
		var f feed.Feed
		room := slices.Concat(all[:cut], []byte("spare room"))
		before := bytes.Clone(room)
		list := f.Add(room[:cut])
		if !bytes.Equal(room, before) {
			t.Fatalf("%d bytes: they were changed", cut)
		}
		probe.Spoil(room)
		list = append(list, f.Add(all[cut:])...)
		if !slices.EqualFunc(list, some(), probe.SameFrame) {
			t.Fatalf("%d bytes: they were kept", cut)
		}
	}
}

// P2, rule 4: what is answered shares no memory with the feed, or with another answer.
func TestAnswersAreNew(t *testing.T) {
	list := some()
	all := bytesOf(list...)
	for size := 1; size <= len(all); size += 7 {
		var f feed.Feed
		var got []frame.Frame
		for piece := range slices.Chunk(all, size) {
			for _, x := range f.Add(piece) {
				got = append(got, frame.Frame{Kind: x.Kind, Stream: x.Stream, Data: bytes.Clone(x.Data)})
				probe.Spoil(x.Data)
			}
		}
		if !slices.EqualFunc(got, list, probe.SameFrame) {
			t.Errorf("pieces of %d: the answers share memory", size)
		}
	}
	var f feed.Feed
	kept := f.Add(all)
	f.Add(bytes.Repeat([]byte("\xf8\x03xyz"), 100))
	if !slices.EqualFunc(kept, list, probe.SameFrame) {
		t.Error("a later Add changed an answer")
	}
}

// P2, rule 4: an error that was written into isn't kept.
func TestErrorsAreNew(t *testing.T) {
	for _, in := range []string{"\x08\x00\x07", "\x08\x81\x80\x01", "\x08\x02x"} {
		var f feed.Feed
		f.Add([]byte(in))
		want := stateOf(&f)
		for _, err := range []error{f.Err(), f.End()} {
			if fault, ok := err.(*api.Fault); ok {
				fault.At, fault.Err = 77, api.ErrGone
			}
		}
		if got := stateOf(&f); got != want {
			t.Errorf("%x: %v, not %v", in, got, want)
		}
	}
}

// P5.1: feeds have nothing to do with each other.
func TestFeedsApart(t *testing.T) {
	all := bytesOf(some()...)
	var pairs [3]pair
	for i := range len(all) {
		for j := range pairs {
			from := min((j+1)*i, len(all))
			pairs[j].add(t, all[from:min((j+1)*(i+1), len(all))])
		}
	}
	for j := range pairs {
		if pairs[j].m.told != len(some()) {
			t.Errorf("the feed %d: %v", j, stateOf(&pairs[j].f))
		}
	}
}

// P5.1: every short row of bytes that matter, byte by byte.
func TestEveryShortRow(t *testing.T) {
	signs := []byte{0, 1, 2, 7, 8, 0x20, 0x80, 0xff}
	for row := range probe.Rows(signs, 4) {
		var p pair
		for i := range row {
			p.add(t, row[i:i+1])
		}
	}
}

// P1, P5.1, P5.2: any bytes in any pieces.
func FuzzAnyPieces(f *testing.F) {
	f.Add(bytesOf(some()...), []byte{1, 2, 3})
	f.Add([]byte("\x08\x00\x1a\x01x\x07"), []byte{2})
	f.Add([]byte("\x08\x80\x80\x80\x80\x80\x80\x01"), []byte{0, 7})
	f.Add([]byte("\x08\x81\x80\x01"), []byte(nil))
	f.Add(bytesOf(frame.Frame{Kind: 2, Data: probe.Bytes(16384)}), []byte{255, 0, 9})
	f.Fuzz(func(t *testing.T, all, sizes []byte) {
		var p pair
		for _, n := range sizes {
			piece := all[:min(int(n), len(all))]
			p.add(t, piece)
			all = all[len(piece):]
		}
		p.add(t, all)
	})
}
