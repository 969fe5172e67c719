package delta_test

import (
	"bytes"
	"math"
	"slices"
	"strings"
	"testing"

	"wharfinger/api"
	"wharfinger/block"
	"wharfinger/delta"
	"wharfinger/probe"
)

// The calls keep the document's signatures, the limit its value.
var (
	_ func(block.Signature, []byte) ([]delta.Token, api.Errno) = delta.Make
	_ func([]byte) []delta.Token                               = delta.Whole
	_ func([]delta.Token) ([]byte, api.Errno)                  = delta.Bytes
	_ func([]byte) ([]delta.Token, error)                      = delta.Read
	_ [8192]struct{}                                           = [delta.MaxTokens]struct{}{}
)

// pieces: a file told as the document words it, each window being summed anew, and no tokens made one yet.
func pieces(s block.Signature, data []byte) []delta.Token {
	var list []delta.Token
	for table := s.Index(); len(data) > 0; {
		front := data[:min(s.Size, len(data))]
		if i, ok := table.Find(probe.Weak(front), front); ok {
			list = append(list, probe.Blocks(i, 1))
			data = data[len(front):]
		} else {
			list = append(list, probe.Text(string(data[:1])))
			data = data[1:]
		}
	}
	return list
}

// oneWith: are a piece and the next one parts of one token?
func oneWith(t, next delta.Token) bool {
	if t.Count == 0 || next.Count == 0 {
		return t.Count == next.Count
	}
	return t.First+1 == next.First
}

// joined: pieces side by side made one token, run by run.
func joined(list []delta.Token) []delta.Token {
	var out []delta.Token
	for len(list) > 0 {
		n := 1
		for n < len(list) && oneWith(list[n-1], list[n]) {
			n++
		}
		run := delta.Token{First: list[0].First}
		for _, t := range list[:n] {
			run.Count += t.Count
			run.Data = append(run.Data, t.Data...)
		}
		out = append(out, run)
		list = list[n:]
	}
	return out
}

// P7.1: files written out.
func TestMake(t *testing.T) {
	for _, c := range []struct {
		name, old string
		size, cut int
		data      string
		want      []delta.Token
	}{
		{"the document's example", "abcd", 2, 32, "xcd", []delta.Token{probe.Text("x"), probe.Blocks(1, 1)}},
		{"all of it", "abcdef", 2, 32, "abcdef", []delta.Token{probe.Blocks(0, 3)}},
		{"with a shorter block", "abcdefg", 2, 32, "abcdefg", []delta.Token{probe.Blocks(0, 4)}},
		{"the shorter block alone", "abcdefg", 2, 32, "g", []delta.Token{probe.Blocks(3, 1)}},
		{"the shorter block behind another", "abcdefg", 2, 32, "abg", []delta.Token{probe.Blocks(0, 1), probe.Blocks(3, 1)}},
		{"the shorter block not at the end", "abcdefg", 2, 32, "gab", []delta.Token{probe.Text("g"), probe.Blocks(0, 1)}},
		{"the shorter block behind bytes", "abcdefg", 2, 32, "xyg", []delta.Token{probe.Text("xy"), probe.Blocks(3, 1)}},
		{"a longer block cut short", "abcd", 2, 32, "abc", []delta.Token{probe.Blocks(0, 1), probe.Text("c")}},
		{"nothing", "abcd", 2, 32, "", nil},
		{"of nothing", "", 2, 32, "abcd", []delta.Token{probe.Text("abcd")}},
		{"nothing of nothing", "", 2, 32, "", nil},
		{"blocks the other way round", "abcdef", 2, 32, "efcdab", []delta.Token{probe.Blocks(2, 1), probe.Blocks(1, 1), probe.Blocks(0, 1)}},
		{"a block left out", "abcdef", 2, 32, "abef", []delta.Token{probe.Blocks(0, 1), probe.Blocks(2, 1)}},
		{"a block twice", "abcdef", 2, 32, "ababcd", []delta.Token{probe.Blocks(0, 1), probe.Blocks(0, 2)}},
		{"the last one, then the first", "abcd", 2, 32, "cdab", []delta.Token{probe.Blocks(1, 1), probe.Blocks(0, 1)}},
		{"blocks that are the same: the first of them", "ababab", 2, 32, "ababab", []delta.Token{probe.Blocks(0, 1), probe.Blocks(0, 1), probe.Blocks(0, 1)}},
		{"the first of the same, then the next one", "abcdabef", 2, 32, "abcdabef", []delta.Token{probe.Blocks(0, 2), probe.Blocks(0, 1), probe.Blocks(3, 1)}},
		{"bytes between blocks", "abcdef", 2, 32, "abxcdyzefw", []delta.Token{probe.Blocks(0, 1), probe.Text("x"), probe.Blocks(1, 1), probe.Text("yz"), probe.Blocks(2, 1), probe.Text("w")}},
		{"blocks that would be side by side but for a byte", "abcd", 2, 32, "abxcd", []delta.Token{probe.Blocks(0, 1), probe.Text("x"), probe.Blocks(1, 1)}},
		{"bytes, then the block 0", "abcd", 2, 32, "xxab", []delta.Token{probe.Text("xx"), probe.Blocks(0, 1)}},
		{"a block from the left", "aba", 3, 32, "ababa", []delta.Token{probe.Blocks(0, 1), probe.Text("ba")}},
		{"shorter than a block", "abcd", 3, 32, "ab", []delta.Token{probe.Text("ab")}},
		{"blocks of one byte", "abc", 1, 32, "cabxb", []delta.Token{probe.Blocks(2, 1), probe.Blocks(0, 2), probe.Text("x"), probe.Blocks(1, 1)}},
		{"a block greater than the file", "abc", 4096, 32, "abc", []delta.Token{probe.Blocks(0, 1)}},
		{"the file is the end", "abc", 4096, 32, "xxabc", []delta.Token{probe.Text("xx"), probe.Blocks(0, 1)}},
		{"the file is the beginning", "abc", 4096, 32, "abcx", []delta.Token{probe.Text("abcx")}},
		{"one weak sum, nothing else counts", "\x01\x03\x01", 3, 0, "\x02\x01\x02\x02\x01\x02", []delta.Token{probe.Blocks(0, 1), probe.Blocks(0, 1)}},
		{"one weak sum, a byte counts", "\x01\x03\x01", 3, 1, "\x02\x01\x02", []delta.Token{probe.Text("\x02\x01\x02")}},
		{"noughts", "\x00\x00\x00", 2, 0, "\x00\x00\x00\x00\x00", []delta.Token{probe.Blocks(0, 1), probe.Blocks(0, 2)}},
	} {
		list, e := delta.Make(probe.Sums([]byte(c.old), c.size, c.cut), []byte(c.data))
		if e != api.OK || !probe.SameTokens(list, c.want) {
			t.Errorf("%s: %v, %d, not %v", c.name, list, e, c.want)
		}
	}
}

// P7.1: every short file told by every short file.
func TestMakeEveryShortFile(t *testing.T) {
	for old := range probe.Rows([]byte("\x00ab"), 4) {
		for size := 1; size <= 3; size++ {
			for _, cut := range []int{0, 32} {
				s := probe.Sums(old, size, cut)
				for data := range probe.Rows([]byte("\x00ab"), 5) {
					want := joined(pieces(s, data))
					if list, e := delta.Make(s, data); e != api.OK || !probe.SameTokens(list, want) {
						t.Fatalf("%q by %q, blocks of %d, cut %d: %v, %d, not %v", data, old, size, cut, list, e, want)
					}
				}
			}
		}
	}
}

// P7.1: long files with changes in them, whose windows are rolled over many blocks.
func TestMakeLongFiles(t *testing.T) {
	old := probe.Bytes(6000)
	for _, data := range [][]byte{
		old,
		old[1:],
		old[:5999],
		old[777:3333],
		slices.Concat(old[:1000], []byte("some more"), old[1000:]),
		slices.Concat(old[:1000], old[1001:4000], probe.Bytes(700), old[3000:]),
		slices.Concat(old[4000:], old[:4000]),
		slices.Concat(old, old),
		bytes.Repeat(old[10:40], 200),
		make([]byte, 6000),
		probe.Bytes(5999),
	} {
		for _, size := range []int{2, 3, 100, 1023, 4096} {
			for _, cut := range []int{0, 2, 32} {
				s := probe.Sums(old, size, cut)
				want := joined(pieces(s, data))
				if list, e := delta.Make(s, data); e != api.OK || !probe.SameTokens(list, want) {
					t.Errorf("%d bytes, blocks of %d, cut %d: %d tokens, %d, not %d", len(data), size, cut, len(list), e, len(want))
				}
			}
		}
	}
}

// P7.1: as many tokens as can be, and one more; they are counted when those side by side are one.
func TestMakeMostTokens(t *testing.T) {
	one := probe.Sums([]byte("a"), 1, 4)
	two := probe.Sums([]byte("ab"), 1, 4)
	for _, c := range []struct {
		name string
		s    block.Signature
		data string
		want int // -1: too many
	}{
		{"8191 blocks", one, strings.Repeat("a", 8191), 8191},
		{"8192 blocks", one, strings.Repeat("a", 8192), 8192},
		{"8193 blocks", one, strings.Repeat("a", 8193), -1},
		{"8192 blocks and a byte", one, strings.Repeat("a", 8192) + "x", -1},
		{"8191 blocks and bytes", one, strings.Repeat("a", 8191) + strings.Repeat("x", 1000), 8192},
		{"8191 blocks, bytes, and a block", one, strings.Repeat("a", 8191) + "xxa", -1},
		{"bytes and blocks", one, strings.Repeat("xxxa", 4096), 8192},
		{"bytes and blocks, and bytes", one, strings.Repeat("xxxa", 4096) + "x", -1},
		{"bytes and blocks, and a block", one, strings.Repeat("xxxa", 4096) + "a", -1},
		{"bytes and blocks, one more, and no more tokens", two, strings.Repeat("xa", 4096) + "b", 8192},
		{"blocks side by side", two, strings.Repeat("ab", 8192), 8192},
		{"one more pair", two, strings.Repeat("ab", 8193), -1},
		{"many more", one, strings.Repeat("a", 100000), -1},
		{"many bytes", one, strings.Repeat("x", 100000), 1},
	} {
		list, e := delta.Make(c.s, []byte(c.data))
		if c.want < 0 && (e != api.ErrLong || len(list) > 0) {
			t.Errorf("%s: %d tokens, %d", c.name, len(list), e)
		}
		if c.want >= 0 && (e != api.OK || len(list) != c.want || !probe.SameTokens(list, joined(pieces(c.s, []byte(c.data))))) {
			t.Errorf("%s: %d tokens, %d, not %d", c.name, len(list), e, c.want)
		}
	}
}

// P7.1: layer 6's Check's error, ahead of all.
func TestMakeOfWrongSums(t *testing.T) {
	some := probe.Sums([]byte("a"), 1, 5).Blocks
	for _, c := range []struct {
		name string
		s    block.Signature
		want api.Errno
	}{
		{"nothing", block.Signature{}, api.ErrRange},
		{"no size", block.Signature{Size: 0, Cut: 5, Length: 1, Blocks: some}, api.ErrRange},
		{"a size below 0", block.Signature{Size: math.MinInt, Cut: 5, Length: 1, Blocks: some}, api.ErrRange},
		{"a size too great", block.Signature{Size: 4097, Cut: 5, Length: 1, Blocks: some}, api.ErrRange},
		{"a cut too great", block.Signature{Size: 1, Cut: 33, Length: 1, Blocks: some}, api.ErrRange},
		{"a length below 0", block.Signature{Size: 1, Cut: 5, Length: -1, Blocks: some}, api.ErrRange},
		{"too many blocks", block.Signature{Size: 1, Cut: 5, Length: 4097, Blocks: some}, api.ErrLong},
		{"a block more", block.Signature{Size: 1, Cut: 5, Length: 0, Blocks: some}, api.ErrForm},
		{"a block fewer", block.Signature{Size: 1, Cut: 5, Length: 2, Blocks: some}, api.ErrForm},
		{"bytes behind the cut", block.Signature{Size: 1, Cut: 4, Length: 1, Blocks: some}, api.ErrForm},
	} {
		for _, data := range [][]byte{nil, []byte("ab"), bytes.Repeat([]byte("a"), 8193)} {
			if list, e := delta.Make(c.s, data); e != c.want || len(list) > 0 {
				t.Errorf("%s, %d bytes: %d tokens, %d, not %d", c.name, len(data), len(list), e, c.want)
			}
		}
	}
}

// P7.2: all bytes at once, however many; no token of none.
func TestWhole(t *testing.T) {
	for _, data := range [][]byte{[]byte("a"), []byte("ab"), {0}, probe.Bytes(4097), probe.Bytes(1 << 17)} {
		if list := delta.Whole(data); !probe.SameTokens(list, []delta.Token{{Data: data}}) {
			t.Errorf("%d bytes: %d tokens", len(data), len(list))
		}
	}
	for _, data := range [][]byte{nil, {}} {
		if list := delta.Whole(data); len(list) != 0 {
			t.Errorf("of nothing: %v", list)
		}
	}
}

// makers: both calls that tell a file, of one that has blocks and bytes.
func makers() map[string]func([]byte) []delta.Token {
	s := probe.Sums(probe.Bytes(300), 7, 9)
	return map[string]func([]byte) []delta.Token{
		"Whole": delta.Whole,
		"Make": func(data []byte) []delta.Token {
			list, _ := delta.Make(s, data)
			return list
		},
	}
}

// P2, rule 4: what is handed in is as it was, its spare room too, and isn't kept; what is answered is new memory.
func TestTellingSharesNothing(t *testing.T) {
	old := probe.Bytes(300)
	for name, tell := range makers() {
		room := slices.Concat([]byte("some"), old[50:200], []byte("and other bytes"), old[21:91], []byte("x"), old[7:14], []byte("y"), []byte("spare room"))
		before := bytes.Clone(room)
		data := room[:len(room)-10]
		first, second := tell(data), tell(data)
		want := probe.CloneTokens(second)
		if !bytes.Equal(room, before) {
			t.Errorf("%s changed the data", name)
		}
		probe.Spoil(room)
		probe.SpoilTokens(first)
		if !probe.SameTokens(second, want) {
			t.Errorf("%s kept the data, or its answers share memory", name)
		}
		for i, one := range second { // each token has memory of its own
			probe.Spoil(one.Data)
			want[i].Data = one.Data
			if !probe.SameTokens(second, want) {
				t.Fatalf("%s: tokens share memory", name)
			}
		}
	}
}

// P2, rule 4: the sums are as they were.
func TestMakeLeavesSums(t *testing.T) {
	room := append(probe.Sums(probe.Bytes(300), 7, 9).Blocks, block.Block{Weak: 1}, block.Block{Weak: 2})
	before := slices.Clone(room)
	s := block.Signature{Size: 7, Cut: 9, Length: 300, Blocks: room[:len(room)-2]}
	if list, e := delta.Make(s, probe.Bytes(300)); e != api.OK || !probe.SameTokens(list, []delta.Token{probe.Blocks(0, 43)}) {
		t.Errorf("%v, %d", list, e)
	}
	if !slices.Equal(room, before) {
		t.Error("Make changed the blocks")
	}
}

// checkMade: is this what Make answers?
func checkMade(t *testing.T, s block.Signature, data []byte, list []delta.Token, e api.Errno) {
	t.Helper()
	errno := s.Check()
	var want []delta.Token
	if errno == api.OK {
		want = joined(pieces(s, data))
	}
	if len(want) > 8192 {
		want, errno = nil, api.ErrLong
	}
	if e != errno || !probe.SameTokens(list, want) {
		t.Errorf("%v, %d, not %v, %d", list, e, want, errno)
	}
}

// made: what tokens make of a file.
func made(old []byte, size int, list []delta.Token) []byte {
	var out []byte
	for _, t := range list {
		for i := t.First; i < t.First+t.Count; i++ {
			out = append(out, old[i*size:min(i*size+size, len(old))]...)
		}
		out = append(out, t.Data...)
	}
	return out
}

// P1, P7.1: any file by any other; with all of the strong sums the tokens make it.
func FuzzMake(f *testing.F) {
	f.Add([]byte("abcdefg"), uint16(2), uint8(32), []byte("xcdefabyg"))
	f.Add([]byte("aaaa"), uint16(1), uint8(0), []byte("aaaaab"))
	f.Add([]byte("\x01\x03\x01"), uint16(3), uint8(0), []byte("\x02\x01\x02"))
	f.Add(probe.Bytes(500), uint16(64), uint8(4), probe.Bytes(500)[3:])
	f.Fuzz(func(t *testing.T, old []byte, size uint16, cut uint8, data []byte) {
		s := probe.Sums(old, int(size%4096)+1, int(cut%33))
		list, e := delta.Make(s, data)
		checkMade(t, s, data, list, e)
		if e == api.OK && s.Cut == 32 && !bytes.Equal(made(old, s.Size, list), data) {
			t.Errorf("the tokens %v don't make the file", list)
		}
	})
}

// P1, P7.1: any sums, of no file too.
func FuzzMakeOfAnySums(f *testing.F) {
	f.Add(2, 3, 4, []byte("abcdefgh"), []byte("xyz"))
	f.Add(1, 0, 3, []byte("\x00\x01\x02"), []byte("\x00\x00\x00"))
	f.Add(1, 0, 1, []byte("\x00"), []byte("\x00\x01"))
	f.Add(math.MaxInt, math.MinInt, math.MaxInt, []byte(nil), []byte("a"))
	f.Fuzz(func(t *testing.T, size, cut, length int, raw, data []byte) {
		s := probe.AnySums(size, cut, length, raw)
		list, e := delta.Make(s, data)
		checkMade(t, s, data, list, e)
	})
}
