package word_test

import (
	"bytes"
	"fmt"
	"math"
	"slices"
	"strings"
	"testing"

	"wharfinger/api"
	"wharfinger/auth"
	"wharfinger/block"
	"wharfinger/code"
	"wharfinger/delta"
	"wharfinger/frame"
	"wharfinger/patch"
	"wharfinger/probe"
	"wharfinger/word"
)

// The calls keep the document's signatures, the limits their values.
var (
	_ func(word.Word) (frame.Frame, api.Errno) = word.Word.Frame
	_ func(frame.Frame) (word.Word, error)     = word.Read
	_ func(...word.Word) ([]byte, api.Errno)   = word.Bytes
	_ [1]struct{}                              = [word.Version]struct{}{}
	_ [64]struct{}                             = [word.MaxPaths]struct{}{}
	_                                          = word.Word{Kind: 0, Num: 0, Name: "", Paths: []string{}, Sum: api.Sum{}, Nonce: auth.Nonce{}, Data: []byte{}, Sums: block.Signature{}, Told: patch.Told{}}
)

// P16.1: the kinds' numbers.
func TestKinds(t *testing.T) {
	for i, kind := range []int{
		word.Hello, word.Proof, word.Push, word.Tell, word.Full, word.Gone, word.Pull, word.Want, word.Again, word.End, word.Bye,
		word.Greet, word.Grant, word.Sums, word.Redo, word.List, word.Gift, word.File, word.Commit, word.Closed, word.Fail,
	} {
		if kind != i+1 {
			t.Errorf("%d, not %d", kind, i+1)
		}
	}
}

// counting: so many bytes, from 1 on, as a text.
func counting(n int) string {
	var b []byte
	for i := range n {
		b = append(b, byte(i+1))
	}
	return string(b)
}

// sumOf and nonceOf: those of these bytes.
func sumOf(s string) api.Sum {
	var sum api.Sum
	copy(sum[:], s)
	return sum
}

func nonceOf(s string) auth.Nonce {
	var n auth.Nonce
	copy(n[:], s)
	return n
}

// P16.1 to P16.3: a word of each kind, written out.
func TestWrittenOut(t *testing.T) {
	sums := block.Signature{Size: 2, Cut: 1, Length: 3, Blocks: []block.Block{{Weak: 300, Strong: api.Sum{8}}, {Weak: 1, Strong: api.Sum{9}}}}
	sumsOut := "\x02\x01\x03\xac\x02\x08\x01\x09"
	told := patch.Told{Cut: 3, Sum: sumOf(counting(32)), Tokens: []delta.Token{probe.Text("xy"), probe.Blocks(300, 2)}}
	toldOut := "\x03" + counting(32) + "\x02\x00\x02xy\x02\xac\x02"
	for _, c := range []struct {
		w    word.Word
		want string
	}{
		{word.Word{Kind: 1, Num: 1, Name: "home"}, "\x01\x04home"},
		{word.Word{Kind: 2, Name: "ann", Sum: sumOf(counting(32))}, "\x03ann" + counting(32)},
		{word.Word{Kind: 3, Paths: []string{"a", "", "b/c"}}, "\x03\x01a\x00\x03b/c"},
		{word.Word{Kind: 4, Num: 300, Told: told}, "\xac\x02" + toldOut},
		{word.Word{Kind: 5, Num: 2, Data: []byte("\x80x")}, "\x02\x80x"},
		{word.Word{Kind: 6, Num: 127}, "\x7f"},
		{word.Word{Kind: 7, Name: "r"}, "\x01r"},
		{word.Word{Kind: 8, Num: 3, Sums: sums}, "\x03" + sumsOut},
		{word.Word{Kind: 9, Num: 128}, "\x80\x01"},
		{word.Word{Kind: 10}, ""},
		{word.Word{Kind: 11}, ""},
		{word.Word{Kind: 12, Num: 1, Nonce: nonceOf(counting(16))}, "\x01" + counting(16)},
		{word.Word{Kind: 13}, ""},
		{word.Word{Kind: 14, Num: 0, Sums: sums}, "\x00" + sumsOut},
		{word.Word{Kind: 15, Num: 1 << 40}, "\x80\x80\x80\x80\x80\x20"},
		{word.Word{Kind: 16, Num: 5, Paths: []string{"x"}}, "\x05\x01\x01x"},
		{word.Word{Kind: 17, Num: 0, Told: told}, "\x00" + toldOut},
		{word.Word{Kind: 18, Num: 0, Data: nil}, "\x00"},
		{word.Word{Kind: 19, Num: 1}, "\x01"},
		{word.Word{Kind: 20}, ""},
		{word.Word{Kind: 21, Num: 190}, "\xbe\x01"},
	} {
		f, e := c.w.Frame()
		if e != api.OK || f.Kind != c.w.Kind || f.Stream != 0 || string(f.Data) != c.want {
			t.Errorf("Frame of kind %d: %d, %d, %x, %d, not %x", c.w.Kind, f.Kind, f.Stream, f.Data, e, c.want)
		}
		w, err := word.Read(frame.Frame{Kind: c.w.Kind, Data: []byte(c.want)})
		if err != nil || !same(w, c.w) {
			t.Errorf("Read of kind %d: %v, %v", c.w.Kind, w, err)
		}
	}
}

// values: for a field ways to fill it, which can all be.
func values(field string) []func(*word.Word) {
	var list []func(*word.Word)
	add := func(fill func(*word.Word)) { list = append(list, fill) }
	switch field {
	case "Num":
		for _, n := range []int{0, 1, 127, 128, 16384, 1 << 39, 1<<40 - 1, 1 << 40} {
			add(func(w *word.Word) { w.Num = n })
		}
	case "Name":
		for _, s := range []string{"", "home", "\xff\x00", strings.Repeat("n", 127), strings.Repeat("n", 128), strings.Repeat("é", 2048)} {
			add(func(w *word.Word) { w.Name = s })
		}
	case "Paths":
		for _, list := range [][]string{nil, {}, {""}, {"a", "b/c"}, {"b", "a", "b", "//", "\xff"}, slices.Repeat([]string{"p"}, 64), {strings.Repeat("p", 4096), "q"}} {
			add(func(w *word.Word) { w.Paths = list })
		}
	case "Sum":
		for _, s := range []string{"", "\x01", strings.Repeat("\x00", 31) + "\x01", counting(32)} {
			add(func(w *word.Word) { w.Sum = sumOf(s) })
		}
	case "Nonce":
		for _, s := range []string{"", "\x01", strings.Repeat("\x00", 15) + "\x01", counting(16)} {
			add(func(w *word.Word) { w.Nonce = nonceOf(s) })
		}
	case "Data":
		for _, b := range [][]byte{nil, {}, {0}, probe.Bytes(300), probe.Bytes(10000)} {
			add(func(w *word.Word) { w.Data = b })
		}
	case "Sums":
		for _, n := range []int{0, 1, 8, 100, 1000} {
			add(func(w *word.Word) { w.Sums = probe.Sums(probe.Bytes(n), 1+n/7, n%33) })
		}
	case "Told":
		for _, cut := range []int{0, 1, 31, 32} {
			add(func(w *word.Word) { w.Told.Cut = cut })
			add(func(w *word.Word) {
				w.Told = patch.Told{Cut: cut, Sum: sumOf(counting(cut)), Tokens: []delta.Token{probe.Text("x")}}
			})
			add(func(w *word.Word) {
				w.Told = patch.Told{Cut: cut, Sum: sumOf(counting(32)), Tokens: []delta.Token{probe.Blocks(0, 1), probe.Text("xyz"), probe.Blocks(5, 1<<40)}}
			})
		}
	}
	return list
}

// words: of each kind words with all of these values of its fields.
func words() []word.Word {
	var all []word.Word
	for kind := 1; kind <= 21; kind++ {
		list := []word.Word{{Kind: kind}}
		fields, _ := fieldsOf(kind)
		for _, field := range fields {
			var longer []word.Word
			for _, w := range list {
				for _, fill := range values(field) {
					next := w
					fill(&next)
					longer = append(longer, next)
				}
			}
			list = longer
		}
		all = append(all, list...)
	}
	return all
}

// P16.1 to P16.3: there and back.
func TestThereAndBack(t *testing.T) {
	all := words()
	if len(all) < 400 {
		t.Fatalf("%d words", len(all))
	}
	for _, w := range all {
		f, e := w.Frame()
		if e != api.OK || !probe.SameFrame(f, frameAs(w)) {
			t.Fatalf("Frame of %.200v: %d, %d, %d bytes, %d", w, f.Kind, f.Stream, len(f.Data), e)
		}
		if x, err := word.Read(f); err != nil || !same(w, x) {
			t.Fatalf("Read of %.200v: %.200v, %v", w, x, err)
		}
	}
}

// refused: a word has no frame.
func refused(t *testing.T, name string, w word.Word, want api.Errno) {
	t.Helper()
	if f, e := w.Frame(); e != want || f.Kind != 0 || f.Stream != 0 || f.Data != nil {
		t.Errorf("%s: Frame: %d, %d, %d bytes, %d, not %d", name, f.Kind, f.Stream, len(f.Data), e, want)
	}
	if b, e := word.Bytes(word.Word{Kind: word.End}, w, word.Word{}); e != want || b != nil {
		t.Errorf("%s: Bytes: %d bytes, %d, not %d", name, len(b), e, want)
	}
}

// P16.2: kinds that are none, whatever else is wrong.
func TestFrameOfNoKind(t *testing.T) {
	for _, kind := range []int{0, 22, 23, 31, 32, -1, 256 + word.End, 1<<32 + word.End, math.MaxInt, math.MinInt} {
		refused(t, "nothing else", word.Word{Kind: kind}, api.ErrKind)
		refused(t, "a Num", word.Word{Kind: kind, Num: -1}, api.ErrKind)
		refused(t, "all", word.Word{Kind: kind, Num: 1, Name: "n", Paths: make([]string, 65), Data: probe.Bytes(20000)}, api.ErrKind)
	}
}

// parts: what isn't zero, part by part, and of which field it is.
func parts() []struct {
	field string
	w     word.Word
} {
	return []struct {
		field string
		w     word.Word
	}{
		{"Num", word.Word{Num: 1}},
		{"Num", word.Word{Num: -1}},
		{"Num", word.Word{Num: math.MaxInt}},
		{"Name", word.Word{Name: "\x00"}},
		{"Name", word.Word{Name: strings.Repeat("n", 4097)}},
		{"Paths", word.Word{Paths: []string{""}}},
		{"Paths", word.Word{Paths: make([]string, 65)}},
		{"Sum", word.Word{Sum: api.Sum{1}}},
		{"Sum", word.Word{Sum: api.Sum{31: 1}}},
		{"Nonce", word.Word{Nonce: auth.Nonce{1}}},
		{"Nonce", word.Word{Nonce: auth.Nonce{15: 1}}},
		{"Data", word.Word{Data: []byte{0}}},
		{"Sums", word.Word{Sums: block.Signature{Size: 1}}},
		{"Sums", word.Word{Sums: block.Signature{Cut: 1}}},
		{"Sums", word.Word{Sums: block.Signature{Length: 1}}},
		{"Sums", word.Word{Sums: block.Signature{Size: -1}}},
		{"Sums", word.Word{Sums: block.Signature{Blocks: make([]block.Block, 1)}}},
		{"Told", word.Word{Told: patch.Told{Cut: 1}}},
		{"Told", word.Word{Told: patch.Told{Cut: -1}}},
		{"Told", word.Word{Told: patch.Told{Sum: api.Sum{1}}}},
		{"Told", word.Word{Told: patch.Told{Sum: api.Sum{31: 1}}}},
		{"Told", word.Word{Told: patch.Told{Tokens: make([]delta.Token, 1)}}},
	}
}

// P16.2: in each kind, each part of a field that it hasn't, alone and beside a Num that can't be.
func TestFrameOfOtherFields(t *testing.T) {
	for kind := 1; kind <= 21; kind++ {
		fields, _ := fieldsOf(kind)
		for i, c := range parts() {
			if slices.Contains(fields, c.field) {
				continue
			}
			w := c.w
			w.Kind = kind
			if kind == word.Want || kind == word.Sums { // so that nothing else is wrong
				w.Sums = probe.Sums(nil, 1, 1)
			}
			refused(t, fmt.Sprint("part ", i, " in kind ", kind), w, api.ErrForm)
			if slices.Contains(fields, "Num") {
				w.Num = -1
				refused(t, "another field, and Num", w, api.ErrForm)
			}
			if slices.Contains(fields, "Name") {
				w.Name = strings.Repeat("n", 4097)
				refused(t, "another field, and Name", w, api.ErrForm)
			}
		}
	}
}

// P16.2: lists that are empty are zero, be they nil or not.
func TestFrameOfEmptyLists(t *testing.T) {
	for kind := 1; kind <= 21; kind++ {
		w := word.Word{Kind: kind, Paths: []string{}, Data: []byte{}}
		w.Sums.Blocks, w.Told.Tokens = []block.Block{}, []delta.Token{}
		if kind == word.Want || kind == word.Sums {
			w.Sums.Size = 1
		}
		if f, e := w.Frame(); e != api.OK || !probe.SameFrame(f, frameAs(w)) {
			t.Errorf("kind %d: %d, %x, %d", kind, f.Kind, f.Data, e)
		}
	}
}

// P16.2: numbers that can't be, ahead of what is too long and of what is wrong in the other fields.
func TestFrameOfNum(t *testing.T) {
	for _, n := range []int{-1, -2, -code.MaxNum, math.MinInt, code.MaxNum + 1, 1 << 62, math.MaxInt} {
		for kind := 1; kind <= 21; kind++ {
			if fields, _ := fieldsOf(kind); slices.Contains(fields, "Num") {
				refused(t, "Num", word.Word{Kind: kind, Num: n}, api.ErrRange)
			}
		}
		refused(t, "Num and Name", word.Word{Kind: word.Hello, Num: n, Name: strings.Repeat("n", 4097)}, api.ErrRange)
		refused(t, "Num and Paths", word.Word{Kind: word.List, Num: n, Paths: make([]string, 65)}, api.ErrRange)
		refused(t, "Num and Data", word.Word{Kind: word.Full, Num: n, Data: probe.Bytes(20000)}, api.ErrRange)
		refused(t, "Num and Sums", word.Word{Kind: word.Want, Num: n, Sums: block.Signature{Size: 1, Length: 5000}}, api.ErrRange)
		refused(t, "Num and Told", word.Word{Kind: word.Tell, Num: n, Told: patch.Told{Tokens: make([]delta.Token, 1)}}, api.ErrRange)
	}
}

// P16.2: names and paths that are as long as can be, and longer.
func TestFrameOfLong(t *testing.T) {
	for _, n := range []int{4095, 4096, 4097, 4098, 20000} {
		name := strings.Repeat("n", n)
		for _, w := range []word.Word{
			{Kind: word.Hello, Name: name}, {Kind: word.Proof, Name: name}, {Kind: word.Pull, Name: name},
			{Kind: word.Push, Paths: []string{name}}, {Kind: word.List, Paths: []string{"a", name, "b"}}, {Kind: word.Push, Paths: []string{"a", "b", name}},
		} {
			if n > 4096 {
				refused(t, "long", w, api.ErrLong)
			} else if f, e := w.Frame(); e != api.OK || !probe.SameFrame(f, frameAs(w)) {
				t.Errorf("%d bytes in kind %d: %d", n, w.Kind, e)
			}
		}
	}
	for _, n := range []int{63, 64, 65, 66, 5000} {
		for _, w := range []word.Word{{Kind: word.Push, Paths: make([]string, n)}, {Kind: word.List, Num: 1, Paths: make([]string, n)}} {
			if n > 64 {
				refused(t, "many", w, api.ErrLong)
			} else if f, e := w.Frame(); e != api.OK || !probe.SameFrame(f, frameAs(w)) {
				t.Errorf("%d paths in kind %d: %d", n, w.Kind, e)
			}
		}
	}
}

// P16.2: sums that can't be, with layer 6's error, ahead of what is too long.
func TestFrameOfWrongSums(t *testing.T) {
	for _, c := range []struct {
		sums block.Signature
		want api.Errno
	}{
		{block.Signature{}, api.ErrRange},
		{block.Signature{Size: 4097}, api.ErrRange},
		{block.Signature{Size: 1, Cut: 33}, api.ErrRange},
		{block.Signature{Size: 1, Length: -1}, api.ErrRange},
		{block.Signature{Size: 1, Length: 4097}, api.ErrLong},
		{block.Signature{Size: 1, Length: 1}, api.ErrForm},
		{block.Signature{Size: 1, Blocks: make([]block.Block, 1)}, api.ErrForm},
		{block.Signature{Size: 1, Length: 1, Blocks: []block.Block{{Strong: api.Sum{1}}}}, api.ErrForm},
		{block.Signature{Size: 1, Cut: 32, Length: 4096, Blocks: make([]block.Block, 4095)}, api.ErrForm},
		{probe.Sums(make([]byte, 4096), 1, 32), api.ErrLong},
	} {
		refused(t, "Want", word.Word{Kind: word.Want, Sums: c.sums}, c.want)
		refused(t, "Sums", word.Word{Kind: word.Sums, Num: 1 << 40, Sums: c.sums}, c.want)
	}
}

// P16.2: what is told and can't be: first Cut, then the tokens, then how long all is.
func TestFrameOfWrongTold(t *testing.T) {
	long := []delta.Token{{Data: probe.Bytes(20000)}}
	bad := []delta.Token{{Data: probe.Bytes(20000)}, {}}
	many := slices.Repeat([]delta.Token{probe.Blocks(0, 1)}, 8193)
	for _, c := range []struct {
		told patch.Told
		want api.Errno
	}{
		{patch.Told{Cut: -1}, api.ErrRange},
		{patch.Told{Cut: 33}, api.ErrRange},
		{patch.Told{Cut: math.MinInt, Tokens: bad}, api.ErrRange},
		{patch.Told{Cut: math.MaxInt, Tokens: many}, api.ErrRange},
		{patch.Told{Cut: 33, Tokens: long}, api.ErrRange},
		{patch.Told{Cut: 32, Tokens: bad}, api.ErrToken},
		{patch.Told{Cut: 0, Tokens: []delta.Token{{First: -1, Count: 1}}}, api.ErrToken},
		{patch.Told{Cut: 0, Tokens: many}, api.ErrLong},
		{patch.Told{Cut: 32, Tokens: long}, api.ErrLong},
		{patch.Told{Cut: 32, Tokens: many[:8192]}, api.ErrLong},
	} {
		refused(t, "Tell", word.Word{Kind: word.Tell, Told: c.told}, c.want)
		refused(t, "Gift", word.Word{Kind: word.Gift, Num: 1 << 40, Told: c.told}, c.want)
	}
}

// ofSize: words of the kinds that can be long, each of so many bytes as a frame's Data: some more than 16000.
func ofSize(size int) []word.Word {
	const n, count, text = 2, 1, 2 // how many bytes the Num 300 has, that of a few, and that of a long text
	var list []word.Word
	for _, kind := range []int{word.Full, word.File} {
		list = append(list, word.Word{Kind: kind, Num: 300, Data: make([]byte, size-n)})
	}
	for _, kind := range []int{word.Tell, word.Gift} {
		one := delta.Token{Data: make([]byte, size-n-count-32-count-count-text)}
		list = append(list, word.Word{Kind: kind, Num: 300, Told: patch.Told{Cut: 32, Tokens: []delta.Token{one}}})
	}
	long := strings.Repeat("p", 4096)
	left := size - count - 3*(text+4096) - text
	list = append(list, word.Word{Kind: word.Push, Paths: []string{long, strings.Repeat("p", left), long, long}})
	return append(list, word.Word{Kind: word.List, Num: 300, Paths: []string{long, strings.Repeat("p", left-n), long, long}})
}

// P16.2: as many bytes as there may be in all, and one too many.
func TestFrameOfMostData(t *testing.T) {
	for _, w := range ofSize(16384) {
		if f, e := w.Frame(); e != api.OK || len(f.Data) != 16384 || !probe.SameFrame(f, frameAs(w)) {
			t.Errorf("kind %d: %d bytes, %d", w.Kind, len(f.Data), e)
		} else if x, err := word.Read(f); err != nil || !same(w, x) {
			t.Errorf("kind %d: Read: %v", w.Kind, err)
		}
	}
	for _, w := range ofSize(16385) {
		if n := len(frameAs(w).Data); n != 16385 {
			t.Fatalf("kind %d: %d bytes", w.Kind, n)
		}
		refused(t, "one byte too many", w, api.ErrLong)
	}
}

// P16.4: words as bytes: none, the document's, and all kinds one behind the other.
func TestBytes(t *testing.T) {
	if b, e := word.Bytes(); e != api.OK || len(b) > 0 {
		t.Errorf("of none: %x, %d", b, e)
	}
	hello := word.Word{Kind: word.Hello, Num: 1, Name: "home"}
	if b, e := word.Bytes(hello); e != api.OK || string(b) != "\x08\x06\x01\x04home" {
		t.Errorf("Hello: %x, %d", b, e)
	}
	if b, e := word.Bytes(word.Word{Kind: word.Bye}, hello, hello, word.Word{Kind: word.Fail, Num: 128}); e != api.OK || string(b) != "\x58\x00\x08\x06\x01\x04home\x08\x06\x01\x04home\xa8\x02\x80\x01" {
		t.Errorf("four: %x, %d", b, e)
	}
	var want []byte
	for _, w := range words() {
		f := frameAs(w)
		want = slices.Concat(want, []byte{byte(8 * f.Kind)}, num(len(f.Data)), f.Data)
	}
	if b, e := word.Bytes(words()...); e != api.OK || !bytes.Equal(b, want) {
		t.Errorf("of all: %d bytes, %d, not %d", len(b), e, len(want))
	}
}

// P16.4: the first word's error that has one.
func TestBytesOfWrong(t *testing.T) {
	good, noKind, otherField, num := word.Word{Kind: word.End}, word.Word{}, word.Word{Kind: word.End, Num: 1}, word.Word{Kind: word.Gone, Num: -1}
	for _, c := range []struct {
		list []word.Word
		want api.Errno
	}{
		{[]word.Word{noKind}, api.ErrKind},
		{[]word.Word{good, good, noKind}, api.ErrKind},
		{[]word.Word{otherField, noKind, num}, api.ErrForm},
		{[]word.Word{good, num, good, noKind, otherField}, api.ErrRange},
		{[]word.Word{noKind, num, otherField, good}, api.ErrKind},
	} {
		if b, e := word.Bytes(c.list...); e != c.want || b != nil {
			t.Errorf("%v: %x, %d, not %d", c.list, b, e, c.want)
		}
	}
}
