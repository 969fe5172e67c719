package word_test

import (
	"bytes"
	"math"
	"slices"
	"strings"
	"testing"

	"wharfinger/api"
	"wharfinger/block"
	"wharfinger/code"
	"wharfinger/delta"
	"wharfinger/frame"
	"wharfinger/patch"
	"wharfinger/probe"
	"wharfinger/word"
)

// unread: a frame is no word.
func unread(t *testing.T, name string, f frame.Frame, want api.Errno) {
	t.Helper()
	if w, err := word.Read(f); code.Number(err) != want || !isZero(w) {
		t.Errorf("%s: kind %d: %.200v, %v, not %d", name, f.Kind, w, err, want)
	}
}

// P16.3: kinds that are none, and streams, whatever the bytes are.
func TestReadOfKindAndStream(t *testing.T) {
	for _, kind := range []int{0, 22, 31, 32, -1, 256 + word.End, 1<<32 + word.End, math.MaxInt, math.MinInt} {
		for _, stream := range []int{0, 1, -1, math.MaxInt} {
			unread(t, "no kind", frame.Frame{Kind: kind, Stream: stream}, api.ErrKind)
			unread(t, "no kind", frame.Frame{Kind: kind, Stream: stream, Data: []byte("\x80\x00")}, api.ErrKind)
		}
	}
	for kind := 1; kind <= 21; kind++ {
		for _, stream := range []int{1, 2, 7, 8, -1, 256, 1 << 32, math.MaxInt, math.MinInt} {
			unread(t, "a stream", frame.Frame{Kind: kind, Stream: stream}, api.ErrRange)
			unread(t, "a stream", frame.Frame{Kind: kind, Stream: stream, Data: []byte("\x80\x00")}, api.ErrRange)
		}
	}
}

// P16.3: each kind, short of some of its bytes: it is too short, but where what is there is a word too.
func TestReadOfShort(t *testing.T) {
	for _, w := range words() {
		f := frameAs(w)
		if len(f.Data) > 300 {
			continue
		}
		for n := range f.Data {
			g := frame.Frame{Kind: f.Kind, Data: f.Data[:n]}
			fields, _ := fieldsOf(f.Kind)
			if slices.Contains(fields, "Data") && n >= len(num(w.Num)) {
				if x, err := word.Read(g); err != nil || x.Num != w.Num || !bytes.Equal(x.Data, w.Data[:len(x.Data)]) {
					t.Errorf("kind %d, %d bytes: %v, %v", f.Kind, n, x, err)
				}
				continue
			}
			unread(t, "short", g, api.ErrShort)
		}
	}
}

// P16.3: each kind with bytes left.
func TestReadOfLeft(t *testing.T) {
	for _, w := range words() {
		f := frameAs(w)
		if fields, _ := fieldsOf(f.Kind); slices.Contains(fields, "Data") {
			continue
		}
		for _, left := range []string{"\x00", "\x80", "xyz"} {
			unread(t, "bytes left", frame.Frame{Kind: f.Kind, Data: slices.Concat(f.Data, []byte(left))}, api.ErrForm)
		}
	}
}

// P16.3: a number that is none, at the beginning of each kind that has one first.
func TestReadOfWrongNum(t *testing.T) {
	for kind := 1; kind <= 21; kind++ {
		fields, _ := fieldsOf(kind)
		if len(fields) == 0 || fields[0] == "Paths" {
			continue
		}
		unread(t, "no number", frame.Frame{Kind: kind, Data: []byte("\x80\x00" + counting(40))}, api.ErrForm)
		unread(t, "seven digits", frame.Frame{Kind: kind, Data: []byte("\x80\x80\x80\x80\x80\x80\x01" + counting(40))}, api.ErrForm)
		unread(t, "too great", frame.Frame{Kind: kind, Data: []byte("\x81\x80\x80\x80\x80\x20" + counting(40))}, api.ErrRange)
	}
}

// P16.3: names and paths: too long ones, too many, and what is told first.
func TestReadOfNamesAndPaths(t *testing.T) {
	many := func(n int) []byte { return slices.Repeat([]byte{0}, n) }
	for _, c := range []struct {
		name string
		kind int
		data []byte
		want api.Errno
	}{
		{"a name too long", word.Hello, slices.Concat(num(1), text(strings.Repeat("n", 4097))), api.ErrLong},
		{"a name too long, and not there", word.Hello, slices.Concat(num(1), num(4097)), api.ErrLong},
		{"a name too long, and no sum", word.Proof, text(strings.Repeat("n", 4097)), api.ErrLong},
		{"a root too long", word.Pull, text(strings.Repeat("n", 4097)), api.ErrLong},
		{"65 paths", word.Push, slices.Concat(num(65), many(65)), api.ErrLong},
		{"65 paths, and none there", word.Push, num(65), api.ErrLong},
		{"65 paths, and wrong ones", word.Push, slices.Concat(num(65), num(4097)), api.ErrLong},
		{"65 paths", word.List, slices.Concat(num(7), num(65), many(65)), api.ErrLong},
		{"as many as can be told", word.List, slices.Concat(num(7), num(1<<40)), api.ErrLong},
		{"more than can be told", word.List, slices.Concat(num(7), num(1<<40+1)), api.ErrRange},
		{"no number of paths", word.Push, []byte("\x80\x00"), api.ErrForm},
		{"no number of paths there", word.List, num(7), api.ErrShort},
		{"64 paths, and 63 there", word.Push, slices.Concat(num(64), many(63)), api.ErrShort},
		{"64 paths, and 65 there", word.Push, slices.Concat(num(64), many(65)), api.ErrForm},
		{"the last path too long", word.Push, slices.Concat(num(3), many(2), num(4097)), api.ErrLong},
		{"a path too long, ahead of a wrong one", word.Push, slices.Concat(num(3), num(4097), []byte("\x80\x00")), api.ErrLong},
		{"a wrong path ahead of one too long", word.Push, slices.Concat(num(3), []byte("\x80\x00"), num(4097)), api.ErrForm},
		{"a path too long in a frame too long", word.Push, slices.Concat(num(5), bytes.Repeat(text(strings.Repeat("n", 4096)), 4), num(4097)), api.ErrLong},
	} {
		unread(t, c.name, frame.Frame{Kind: c.kind, Data: c.data}, c.want)
	}
}

// P16.3: sums, with layer 6's error.
func TestReadOfSums(t *testing.T) {
	for _, c := range []struct {
		name string
		data []byte
		want api.Errno
	}{
		{"nothing", nil, api.ErrShort},
		{"no number", []byte("\x80\x00"), api.ErrForm},
		{"no blocks", probe.Nums(0, 0, 0), api.ErrRange},
		{"blocks too great", probe.Nums(4097, 0, 0), api.ErrRange},
		{"sums too long", probe.Nums(1, 33, 0), api.ErrRange},
		{"too many blocks", probe.Nums(1, 0, 4097), api.ErrLong},
		{"a block that isn't there", probe.Nums(1, 0, 1), api.ErrShort},
		{"a weak sum too great", probe.Nums(1, 0, 1, 1<<32), api.ErrRange},
		{"bytes left", probe.Nums(1, 0, 1, 5, 0), api.ErrForm},
	} {
		for _, kind := range []int{word.Want, word.Sums} {
			unread(t, c.name, frame.Frame{Kind: kind, Data: slices.Concat(num(300), c.data)}, c.want)
		}
	}
}

// P16.3: what is told: layer 3's errors of Cut and Sum, then what Cut is, then layer 7's.
func TestReadOfTold(t *testing.T) {
	sum := []byte(counting(32))
	for _, c := range []struct {
		name string
		data []byte
		want api.Errno
	}{
		{"nothing", nil, api.ErrShort},
		{"no number", slices.Concat([]byte("\x80\x00"), sum, num(0)), api.ErrForm},
		{"a Cut that no number is", slices.Concat(num(1<<40+1), sum, num(0)), api.ErrRange},
		{"a Cut too great", slices.Concat(num(33), sum, num(0)), api.ErrRange},
		{"a Cut too great, and nothing else", num(33), api.ErrShort},
		{"a Cut too great, and half a sum", slices.Concat(num(33), sum[1:]), api.ErrShort},
		{"a Cut too great, and no tokens", slices.Concat(num(33), sum), api.ErrRange},
		{"a Cut too great, and wrong tokens", slices.Concat(num(1<<40), sum, []byte("\x80\x00")), api.ErrRange},
		{"half a sum", slices.Concat(num(32), sum[1:]), api.ErrShort},
		{"no tokens", slices.Concat(num(32), sum), api.ErrShort},
		{"no number of tokens", slices.Concat(num(32), sum, []byte("\x80\x00")), api.ErrForm},
		{"too many tokens", slices.Concat(num(32), sum, num(8193)), api.ErrLong},
		{"no token", slices.Concat(num(0), sum, num(1), num(0), num(0)), api.ErrToken},
		{"half a token", slices.Concat(num(0), sum, num(1), num(0), num(2), []byte("x")), api.ErrShort},
		{"bytes left", slices.Concat(num(0), sum, num(0), []byte("x")), api.ErrForm},
	} {
		for _, kind := range []int{word.Tell, word.Gift} {
			unread(t, c.name, frame.Frame{Kind: kind, Data: slices.Concat(num(300), c.data)}, c.want)
		}
	}
}

// P16.3: no error is named for more bytes than a frame may have: they are read.
func TestReadOfLongFrame(t *testing.T) {
	for _, w := range ofSize(16385) {
		if x, err := word.Read(frameAs(w)); err != nil || !same(w, x) {
			t.Errorf("kind %d: %v", w.Kind, err)
		}
	}
}

// check: a frame is read as the document words it; and what is read is, as a frame, that one.
func check(t *testing.T, f frame.Frame) {
	t.Helper()
	want, e := readAs(f)
	w, err := word.Read(f)
	if code.Number(err) != e || (err == nil) != (e == api.OK) || !same(w, want) {
		t.Fatalf("Read of kind %d, %x: %.200v, %v, not %.200v, %d", f.Kind, f.Data, w, err, want, e)
	}
	if e != api.OK || len(f.Data) > frame.MaxData {
		return
	}
	if g, e := w.Frame(); e != api.OK || !probe.SameFrame(f, g) {
		t.Fatalf("Frame of kind %d, %x: %x, %d", f.Kind, f.Data, g.Data, e)
	}
}

// P16.3: every short row of bytes, in every kind.
func TestReadOfEveryShortRow(t *testing.T) {
	for row := range probe.Rows([]byte{0, 1, 2, 3, 0x80, 0xff}, 5) {
		for kind := 0; kind <= 22; kind++ {
			check(t, frame.Frame{Kind: kind, Data: row})
		}
	}
}

// P16.3: every short row of bytes behind a Num and a sum.
func TestReadOfEveryShortTold(t *testing.T) {
	sum := []byte(counting(32))
	for row := range probe.Rows([]byte{0, 1, 2, 0x20, 0x21, 0x80}, 5) {
		for _, cut := range [][]byte{num(0), num(32), num(33), num(128)} {
			check(t, frame.Frame{Kind: word.Tell, Data: slices.Concat(num(0), cut, sum, row)})
		}
	}
}

// P2, rule 4: a frame shares nothing with its word, nor with another frame.
func TestFrameSharesNothing(t *testing.T) {
	for _, w := range words() {
		before := plain(w)
		f, _ := w.Frame()
		g, _ := w.Frame()
		probe.Spoil(f.Data)
		if !same(w, before) || !probe.SameFrame(g, frameAs(w)) {
			t.Fatalf("%.200v: shared, not %.200v", w, before)
		}
		b, _ := word.Bytes(w, w)
		probe.Spoil(b)
		if !same(w, before) || !probe.SameFrame(g, frameAs(w)) {
			t.Fatalf("%.200v: shared by Bytes, not %.200v", w, before)
		}
	}
}

// P2, rule 4: a word's lists have spare room that isn't written into.
func TestSpareRoomIsLeft(t *testing.T) {
	room := probe.Bytes(200)
	w := word.Word{Kind: word.Full, Num: 1, Data: room[10:20]}
	if _, e := w.Frame(); e != api.OK || !bytes.Equal(room, probe.Bytes(200)) {
		t.Errorf("Frame: %d", e)
	}
	list := []word.Word{w, {Kind: word.End}, {Kind: word.Bye}}
	if _, e := word.Bytes(list[:2]...); e != api.OK || list[2].Kind != word.Bye || !bytes.Equal(room, probe.Bytes(200)) {
		t.Errorf("Bytes: %d", e)
	}
	f := frame.Frame{Kind: word.Full, Data: room[10:20]}
	x, err := word.Read(f)
	probe.Spoil(append(x.Data, 1))
	if err != nil || !bytes.Equal(room, probe.Bytes(200)) {
		t.Errorf("Read: %v", err)
	}
}

// P2, rule 4: a word shares nothing with its frame, nor with another word.
func TestWordSharesNothing(t *testing.T) {
	for _, w := range words() {
		f := frameAs(w)
		x, _ := word.Read(f)
		y, _ := word.Read(f)
		probe.Spoil(x.Data)
		probe.SpoilTokens(x.Told.Tokens)
		blocks := x.Sums.Blocks[:cap(x.Sums.Blocks)]
		for i := range blocks {
			blocks[i] = block.Block{Weak: 77}
		}
		paths := x.Paths[:cap(x.Paths)]
		for i := range paths {
			paths[i] = "changed"
		}
		if !probe.SameFrame(f, frameAs(w)) || !same(y, w) {
			t.Fatalf("%.200v: shared", w)
		}
		probe.Spoil(f.Data)
		if !same(y, w) {
			t.Fatalf("%.200v: kept", w)
		}
	}
}

// P16.3: where an error is a Fault it is a new one each time.
func TestFaultsAreNew(t *testing.T) {
	for _, f := range []frame.Frame{{Kind: word.Gone}, {Kind: word.End, Data: []byte("x")}, {Kind: word.Want, Data: []byte("\x00")}, {Kind: word.Push, Data: []byte("\x01")}} {
		if !probe.NewFaults(func() error { _, err := word.Read(f); return err }) {
			t.Errorf("kind %d", f.Kind)
		}
	}
}

// P1, P16.3: any frame.
func FuzzRead(f *testing.F) {
	for kind := -1; kind <= 23; kind++ {
		f.Add(kind, 0, []byte("\x01\x01\x01\x01\x00"))
		f.Add(kind, 1, probe.Bytes(60))
	}
	for _, w := range words() {
		if g := frameAs(w); len(g.Data) < 200 {
			f.Add(g.Kind, 0, g.Data)
		}
	}
	f.Fuzz(func(t *testing.T, kind, stream int, data []byte) {
		before := bytes.Clone(data)
		check(t, frame.Frame{Kind: kind, Stream: stream, Data: data})
		for kind := range 23 {
			check(t, frame.Frame{Kind: kind, Data: data})
		}
		if !bytes.Equal(data, before) {
			t.Error("the frame was changed")
		}
	})
}

// P1, P16.2: words of any shape: what has a frame is read of it as it was.
func FuzzFrame(f *testing.F) {
	f.Add(1, 1, "home", "a b", []byte("x"), 1, 2, 3, byte(0))
	f.Add(8, 1<<40, "", "", []byte("xyzxyzxyz"), 2, 3, 5, byte(0x40))
	f.Add(17, -1, "n", "", probe.Bytes(50), 0, 33, math.MaxInt, byte(0xff))
	for kind := range 23 {
		for field := range 8 {
			f.Add(kind, kind, "n", "p q", probe.Bytes(40), 1, kind, kind, byte(1<<field|1))
		}
	}
	f.Fuzz(func(t *testing.T, kind, n int, name, paths string, raw []byte, size, cut, length int, which byte) {
		w := word.Word{Kind: kind}
		fills := []func(){
			func() { w.Num = n },
			func() { w.Name = name },
			func() { w.Paths = strings.Fields(paths) },
			func() { copy(w.Sum[:], raw) },
			func() { copy(w.Nonce[:], raw) },
			func() { w.Data = raw },
			func() { w.Sums = probe.AnySums(size, cut, length, raw) },
			func() {
				w.Told = patch.Told{Cut: cut, Tokens: []delta.Token{{First: size, Count: length}, {Data: raw}, {First: n, Count: 1}}}
				copy(w.Told.Sum[:], raw)
			},
		}
		for i, fill := range fills {
			if which>>i&1 > 0 {
				fill()
			}
		}
		before := plain(w)
		g, e := w.Frame()
		if !same(w, before) {
			t.Error("the word was changed")
		}
		if want := whyNot(w); e != want || e != api.OK {
			refused(t, "any", w, want)
			return
		}
		if !probe.SameFrame(g, frameAs(w)) {
			t.Errorf("%v: %x", w, g.Data)
		}
		if x, err := word.Read(g); err != nil || !same(w, x) {
			t.Errorf("%v: %v, %v", w, x, err)
		}
	})
}
