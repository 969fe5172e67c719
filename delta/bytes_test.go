package delta_test

import (
	"bytes"
	"math"
	"slices"
	"testing"

	"wharfinger/api"
	"wharfinger/code"
	"wharfinger/delta"
	"wharfinger/probe"
)

// bytesOf writes tokens as the document words it.
func bytesOf(list []delta.Token) []byte {
	b := probe.Nums(uint64(len(list)))
	for _, t := range list {
		if t.Count > 0 {
			b = append(b, probe.Nums(uint64(t.Count), uint64(t.First))...)
		} else {
			b = append(b, probe.Nums(0, uint64(len(t.Data)))...)
			b = append(b, t.Data...)
		}
	}
	return b
}

// lists: those that can be written.
func lists() [][]delta.Token {
	return [][]delta.Token{
		nil,
		{probe.Text("a")},
		{probe.Blocks(0, 1)},
		{probe.Blocks(1<<40, 1<<40)},
		{probe.Blocks(1<<40, 1), probe.Blocks(0, 1<<40)},
		{probe.Blocks(127, 128), probe.Blocks(128, 127), probe.Text("x"), probe.Blocks(300, 70000)},
		{probe.Text("a"), probe.Text("b")},
		{probe.Blocks(0, 1), probe.Blocks(1, 1)},
		{probe.Blocks(5, 1), probe.Text("\x00"), probe.Blocks(0, 1), probe.Text("\x80\x80")},
		{probe.Text(string(probe.Bytes(127)))},
		{probe.Text(string(probe.Bytes(128))), probe.Blocks(1, 2)},
		{{Count: 1, Data: []byte{}}, probe.Text("x")},
		{probe.Text(string(probe.Bytes(1 << 17)))},
		slices.Repeat([]delta.Token{probe.Blocks(3, 2)}, 8191),
		slices.Repeat([]delta.Token{probe.Text("ab"), probe.Blocks(3, 2)}, 4096),
	}
}

// P7.3, P7.4: tokens written out.
func TestBytesWrittenOut(t *testing.T) {
	list := []delta.Token{probe.Text("xy"), probe.Blocks(300, 2), probe.Blocks(0, 129), probe.Text("\x00")}
	want := "\x04\x00\x02xy\x02\xac\x02\x81\x01\x00\x00\x01\x00"
	if b, e := delta.Bytes(list); e != api.OK || string(b) != want {
		t.Errorf("Bytes: %x, %d", b, e)
	}
	if got, err := delta.Read([]byte(want)); err != nil || !probe.SameTokens(got, list) {
		t.Errorf("Read: %v, %v", got, err)
	}
}

// P7.3, P7.4: there and back.
func TestThereAndBack(t *testing.T) {
	for i, list := range lists() {
		b, e := delta.Bytes(list)
		if e != api.OK || !bytes.Equal(b, bytesOf(list)) {
			t.Errorf("the list %d: %d bytes, %d", i, len(b), e)
		}
		if got, err := delta.Read(b); err != nil || !probe.SameTokens(got, list) {
			t.Errorf("the list %d: %d tokens, %v", i, len(got), err)
		}
	}
}

// wrong: tokens that are neither blocks nor bytes.
func wrong() []delta.Token {
	return []delta.Token{
		{},
		{Data: []byte{}},
		{First: 1},
		{First: -1},
		{First: 1, Data: []byte("x")},
		{First: -1, Data: []byte("x")},
		{Count: -1},
		{Count: -1, Data: []byte("x")},
		{Count: math.MinInt},
		{Count: 1, Data: []byte("x")},
		{First: 1, Count: 1, Data: []byte("x")},
		{First: -1, Count: 1},
		{First: math.MinInt, Count: 1},
		{First: 1<<40 + 1, Count: 1},
		{First: math.MaxInt, Count: 1},
		{First: 0, Count: 1<<40 + 1},
		{First: 0, Count: math.MaxInt},
		{First: math.MaxInt, Count: math.MaxInt},
		{First: -1, Count: -1},
	}
}

// P7.3: what Bytes refuses, wherever it stands.
func TestBytesOfWrong(t *testing.T) {
	for _, bad := range wrong() {
		for _, list := range [][]delta.Token{{bad}, {probe.Blocks(0, 1), bad}, {bad, probe.Text("x")}, {probe.Text("x"), probe.Blocks(0, 1), bad, probe.Blocks(1, 1)}} {
			if b, e := delta.Bytes(list); e != api.ErrToken || b != nil {
				t.Errorf("%v: %x, %d", list, b, e)
			}
		}
	}
}

// P7.3: one token too many, and that ahead of a token that can't be.
func TestBytesOfTooMany(t *testing.T) {
	for _, one := range []delta.Token{probe.Text("x"), probe.Blocks(0, 1), {}} {
		if b, e := delta.Bytes(slices.Repeat([]delta.Token{one}, 8193)); e != api.ErrLong || b != nil {
			t.Errorf("8193 of %v: %d bytes, %d", one, len(b), e)
		}
	}
	last := slices.Repeat([]delta.Token{probe.Blocks(0, 1)}, 8192)
	last[8191] = delta.Token{}
	if b, e := delta.Bytes(last); e != api.ErrToken || b != nil {
		t.Errorf("8192, the last one can't be: %d bytes, %d", len(b), e)
	}
}

// P7.4: what Read refuses, in the document's order.
func TestReadWrong(t *testing.T) {
	for _, c := range []struct {
		name, in string
		want     api.Fault
	}{
		{"nothing", "", api.Fault{At: 0, Err: api.ErrShort}},
		{"half a number", "\x80", api.Fault{At: 1, Err: api.ErrShort}},
		{"no number", "\x80\x00", api.Fault{At: 0, Err: api.ErrForm}},
		{"a number too great", string(probe.Nums(1<<40 + 1)), api.Fault{At: 0, Err: api.ErrRange}},
		{"one token too many", string(probe.Nums(8193)), api.Fault{At: 0, Err: api.ErrLong}},
		{"one token too many, and wrong ones", string(probe.Nums(8193, 0, 0)), api.Fault{At: 0, Err: api.ErrLong}},
		{"as many as can be told", string(probe.Nums(1 << 40)), api.Fault{At: 0, Err: api.ErrLong}},
		{"as many as can be, and none there", string(probe.Nums(8192)), api.Fault{At: 2, Err: api.ErrShort}},
		{"no token", "\x01", api.Fault{At: 1, Err: api.ErrShort}},
		{"half a Count", "\x01\x80", api.Fault{At: 2, Err: api.ErrShort}},
		{"no Count", "\x01\x80\x00\x00", api.Fault{At: 1, Err: api.ErrForm}},
		{"a Count too great", "\x01" + string(probe.Nums(1<<40+1, 0)), api.Fault{At: 1, Err: api.ErrRange}},
		{"no First there", "\x01\x01", api.Fault{At: 2, Err: api.ErrShort}},
		{"half a First", "\x01\x01\x80", api.Fault{At: 3, Err: api.ErrShort}},
		{"no First", "\x01\x01\x80\x00", api.Fault{At: 2, Err: api.ErrForm}},
		{"a First too great", "\x01\x01" + string(probe.Nums(1<<40+1)), api.Fault{At: 2, Err: api.ErrRange}},
		{"no length there", "\x01\x00", api.Fault{At: 2, Err: api.ErrShort}},
		{"no length", "\x01\x00\x80\x00", api.Fault{At: 2, Err: api.ErrForm}},
		{"a length too great", "\x01\x00" + string(probe.Nums(1<<40+1)), api.Fault{At: 2, Err: api.ErrRange}},
		{"neither blocks nor bytes", "\x01\x00\x00", api.Fault{At: 1, Err: api.ErrToken}},
		{"neither, and bytes left", "\x01\x00\x00x", api.Fault{At: 1, Err: api.ErrToken}},
		{"neither, and the next one is short", "\x02\x00\x00", api.Fault{At: 1, Err: api.ErrToken}},
		{"the second is neither", "\x02\x01\xac\x02\x00\x00", api.Fault{At: 4, Err: api.ErrToken}},
		{"the second is neither, behind bytes", "\x02\x00\x02ab\x00\x00", api.Fault{At: 5, Err: api.ErrToken}},
		{"no bytes there", "\x01\x00\x01", api.Fault{At: 3, Err: api.ErrShort}},
		{"a byte too few", "\x01\x00\x02a", api.Fault{At: 4, Err: api.ErrShort}},
		{"a byte too few in the second", "\x02\x00\x01a\x00\x03bc", api.Fault{At: 8, Err: api.ErrShort}},
		{"the greatest length", "\x01\x00" + string(probe.Nums(1<<40)) + "a", api.Fault{At: 9, Err: api.ErrShort}},
		{"the second isn't there", "\x02\x00\x01a", api.Fault{At: 4, Err: api.ErrShort}},
		{"bytes left behind no token", "\x00x", api.Fault{At: 1, Err: api.ErrForm}},
		{"bytes left behind blocks", "\x01\x01\x00\x00", api.Fault{At: 3, Err: api.ErrForm}},
		{"bytes left behind bytes", "\x01\x00\x01ab", api.Fault{At: 4, Err: api.ErrForm}},
		{"a token more", "\x01\x01\x00\x01\x00", api.Fault{At: 3, Err: api.ErrForm}},
	} {
		list, err := delta.Read([]byte(c.in))
		if probe.Fault(err) != c.want || len(list) > 0 {
			t.Errorf("%s: %v, %v, not %v", c.name, list, err, c.want.Error())
		}
	}
}

// P7.4: cut short anywhere, the bytes are too few, at their end.
func TestReadCutShort(t *testing.T) {
	b := bytesOf([]delta.Token{probe.Text("abc"), probe.Blocks(300, 1), probe.Blocks(0, 70000), probe.Text(string(probe.Bytes(130)))})
	for n := range b {
		list, err := delta.Read(b[:n])
		if probe.Fault(err) != (api.Fault{At: n, Err: api.ErrShort}) || len(list) > 0 {
			t.Errorf("%d of %d bytes: %v", n, len(b), err)
		}
	}
}

// P2, rule 4: what is handed in is as it was, its spare room too, and isn't kept; what is answered is new memory.
func TestReadingAndWritingShareNothing(t *testing.T) {
	want := []delta.Token{probe.Text("abc"), probe.Blocks(2, 1), probe.Text("d"), probe.Text("efgh")}
	room := append(bytesOf(want), "spare room"...)
	before := bytes.Clone(room)
	in := room[:len(room)-10]
	first, _ := delta.Read(in)
	second, _ := delta.Read(in)
	if !bytes.Equal(room, before) {
		t.Error("Read changed the bytes")
	}
	probe.Spoil(room)
	probe.SpoilTokens(first)
	if !probe.SameTokens(second, want) {
		t.Error("Read kept the bytes, or its answers share memory")
	}
	b, _ := delta.Bytes(second[:3])
	c, _ := delta.Bytes(second[:3])
	probe.Spoil(b)
	if !bytes.Equal(c, bytesOf(want[:3])) || !probe.SameTokens(second, want) {
		t.Error("Bytes changed the tokens, or its answers share memory")
	}
	_ = append(second[0].Data, second[2].Data...)
	probe.Spoil(second[2].Data)
	if string(second[0].Data) != "abc" || string(second[3].Data) != "efgh" {
		t.Error("the tokens of an answer share memory")
	}
}

// P2, rule 4: an error that was written into isn't kept.
func TestErrorsAreNew(t *testing.T) {
	for _, in := range []string{"", "\x81\x40", "\x01\x80\x00", "\x01\x00\x00", "\x01\x00\x02a", "\x00x"} {
		if !probe.NewFaults(func() error { _, err := delta.Read([]byte(in)); return err }) {
			t.Errorf("Read of %x", in)
		}
	}
}

// readAs reads as the document words it, the bytes of a token being taken off the front of what is left.
func readAs(b []byte) ([]delta.Token, api.Fault) {
	at := 0 // how many bytes are taken off
	num := func() (int, api.Fault) {
		r := code.Read(b[at:])
		n := r.Num()
		if err := r.Err(); err != nil {
			return 0, api.Fault{At: at + code.Place(err), Err: code.Number(err)}
		}
		at += r.At()
		return n, api.Fault{}
	}
	none := api.Fault{}
	total, fault := num()
	if fault != none {
		return nil, fault
	}
	if total > 8192 {
		return nil, api.Fault{At: 0, Err: api.ErrLong}
	}
	var list []delta.Token
	for len(list) < total {
		start := at
		count, fault := num()
		if fault != none {
			return nil, fault
		}
		second, fault := num()
		switch {
		case fault != none:
			return nil, fault
		case count > 0:
			list = append(list, probe.Blocks(second, count))
		case second == 0:
			return nil, api.Fault{At: start, Err: api.ErrToken}
		case at+second > len(b):
			return nil, api.Fault{At: len(b), Err: api.ErrShort}
		default:
			list = append(list, probe.Text(string(b[at:at+second])))
			at += second
		}
	}
	if at < len(b) {
		return nil, api.Fault{At: at, Err: api.ErrForm}
	}
	return list, none
}

// P7.4: every short row of bytes that tell something.
func TestReadEveryShortRow(t *testing.T) {
	for b := range probe.Rows([]byte{0, 1, 2, 3, 0x80}, 7) {
		want, fault := readAs(b)
		if list, err := delta.Read(b); probe.Fault(err) != fault || !probe.SameTokens(list, want) {
			t.Fatalf("%x: %v, %v, not %v, %v", b, list, err, want, fault.Error())
		}
	}
}

// P1, P7.4: any bytes are read as the document words it; and what is read is written so again.
func FuzzRead(f *testing.F) {
	for _, list := range lists() {
		if b := bytesOf(list); len(b) < 1000 {
			f.Add(b)
		}
	}
	f.Add([]byte{})
	f.Add(probe.Nums(8193, 1, 1))
	f.Add(probe.Nums(2, 0, 1<<40, 1, 1))
	f.Fuzz(func(t *testing.T, b []byte) {
		before := bytes.Clone(b)
		want, fault := readAs(b)
		list, err := delta.Read(b)
		if probe.Fault(err) != fault || !probe.SameTokens(list, want) {
			t.Fatalf("Read: %v, %v, not %v, %v", list, err, want, fault.Error())
		}
		if err == nil {
			if again, e := delta.Bytes(list); e != api.OK || !bytes.Equal(again, b) {
				t.Errorf("Bytes of what was read: %x, %d", again, e)
			}
		}
		if !bytes.Equal(b, before) {
			t.Error("the bytes were changed")
		}
	})
}

// P1, P7.3: any two tokens are written as the document words it, or refused.
func FuzzBytes(f *testing.F) {
	f.Add(0, 0, []byte("a"), 0, 1, []byte(nil))
	f.Add(math.MaxInt, math.MinInt, []byte("a"), 1<<40, 1<<40, []byte(nil))
	f.Add(1, 0, []byte("a"), 0, 0, []byte(nil))
	f.Fuzz(func(t *testing.T, first, count int, data []byte, next, more int, other []byte) {
		list := []delta.Token{{First: first, Count: count, Data: data}, {First: next, Count: more, Data: other}}
		can := true
		for _, one := range list {
			isBlocks := 1 <= one.Count && one.Count <= 1<<40 && 0 <= one.First && one.First <= 1<<40 && len(one.Data) == 0
			isBytes := len(one.Data) > 0 && one.First == 0 && one.Count == 0
			can = can && (isBlocks || isBytes)
		}
		b, e := delta.Bytes(list)
		switch {
		case can && (e != api.OK || !bytes.Equal(b, bytesOf(list))):
			t.Errorf("%v: %x, %d", list, b, e)
		case !can && (e != api.ErrToken || b != nil):
			t.Errorf("%v, which can't be: %x, %d", list, b, e)
		}
	})
}
