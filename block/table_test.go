package block_test

import (
	"bytes"
	"crypto/sha256"
	"math"
	"testing"

	"wharfinger/api"
	"wharfinger/block"
	"wharfinger/probe"
	"wharfinger/weak"
)

// findIn looks at one block after the other, as the document words it.
func findIn(s block.Signature, w uint32, b []byte) (int, bool) {
	if s.Check() != api.OK {
		return 0, false
	}
	whole := sha256.Sum256(b)
	for i, x := range s.Blocks {
		size := min(s.Size, s.Length-i*s.Size)
		if size == len(b) && x.Weak == w && bytes.Equal(x.Strong[:s.Cut], whole[:s.Cut]) {
			return i, true
		}
	}
	return 0, false
}

// find: what Find has of some bytes.
func find(t *block.Table, b string) int {
	if i, ok := t.Find(weak.Of([]byte(b)).Value(), []byte(b)); ok {
		return i
	}
	return -1
}

// P6.5: the first one of those that are the same; the last one, which is shorter; none.
func TestFind(t *testing.T) {
	for _, c := range []struct {
		data      string
		size, cut int
		want      map[string]int
	}{
		{"abababa", 2, 5, map[string]int{"ab": 0, "a": 3, "ba": -1, "b": -1, "aba": -1, "": -1, "abababa": -1}},
		{"xyabcdab", 2, 32, map[string]int{"xy": 0, "ab": 1, "cd": 2, "ya": -1, "bc": -1, "x": -1}},
		{"aaaaa", 1, 1, map[string]int{"a": 0, "b": -1, "aa": -1}},
		{"abc", 3, 0, map[string]int{"abc": 0, "abd": -1, "ab": -1}},
		{"abc", 4, 4, map[string]int{"abc": 0, "abcd": -1, "abc\x00": -1}},
		{"", 4, 4, map[string]int{"": -1, "a": -1}},
		// An empty window and noughts all have the weak sum 0: the lengths tell them apart.
		{"\x00\x00\x00\x00\x00", 3, 0, map[string]int{"": -1, "\x00": -1, "\x00\x00": 1, "\x00\x00\x00": 0, "\x00\x00\x00\x00": -1}},
		{"\x00\x00\x00\x00\x00", 3, 32, map[string]int{"": -1, "\x00": -1, "\x00\x00": 1, "\x00\x00\x00": 0, "\x00\x00\x00\x00": -1}},
	} {
		s, _ := block.Make([]byte(c.data), c.size, c.cut)
		table := s.Index()
		for b, want := range c.want {
			if got := find(table, b); got != want {
				t.Errorf("%q in %q, blocks of %d, cut %d: %d, not %d", b, c.data, c.size, c.cut, got, want)
			}
		}
	}
}

// P6.5: these three have one weak sum: the strong ones tell them apart, if anything of them counts.
func TestFindSameWeak(t *testing.T) {
	one, two, three := "\x02\x00\x02", "\x01\x02\x01", "\x00\x04\x00"
	if w := probe.Weak([]byte(one)); w != probe.Weak([]byte(two)) || w != probe.Weak([]byte(three)) {
		t.Fatal("they have not one weak sum")
	}
	for _, cut := range []int{1, 2, 31, 32} {
		s, _ := block.Make([]byte(one+two+one+two), 3, cut)
		table := s.Index()
		if find(table, one) != 0 || find(table, two) != 1 || find(table, three) != -1 {
			t.Errorf("cut %d: %d, %d, %d", cut, find(table, one), find(table, two), find(table, three))
		}
	}
	s, _ := block.Make([]byte("abc"+two+one), 3, 0)
	table := s.Index()
	if find(table, one) != 1 || find(table, two) != 1 || find(table, three) != 1 {
		t.Errorf("cut 0: %d, %d, %d", find(table, one), find(table, two), find(table, three))
	}
}

// P6.5: all bytes of the strong sum that count must be the same, and Weak too.
func TestFindEveryByte(t *testing.T) {
	for _, cut := range []int{1, 4, 32} {
		for at := range cut {
			s, _ := block.Make([]byte("abcdef"), 3, cut)
			s.Blocks[0].Strong[at] ^= 1
			if got := find(s.Index(), "abc"); got != -1 {
				t.Errorf("cut %d, another byte at %d: %d", cut, at, got)
			}
			if got := find(s.Index(), "def"); got != 1 {
				t.Errorf("cut %d, the other block: %d", cut, got)
			}
		}
	}
	for bit := range 32 {
		s, _ := block.Make([]byte("abcdef"), 3, 4)
		s.Blocks[0].Weak ^= 1 << bit
		if got := find(s.Index(), "abc"); got != -1 {
			t.Errorf("another bit %d of Weak: %d", bit, got)
		}
	}
}

// P6.5: what is found is what one finds who looks at all blocks, of a file with few signs, and so many that are the same.
func TestFindAsOneByOne(t *testing.T) {
	data := probe.Bytes(300)
	for i := range data {
		data[i] %= 3
	}
	for _, size := range []int{1, 2, 3, 7, 300, 301} {
		for _, cut := range []int{0, 1, 32} {
			s, _ := block.Make(data, size, cut)
			table := s.Index()
			for from := range data {
				for _, n := range []int{size, size - 1, 300 % size, 1} {
					b := data[from:min(from+n, len(data))]
					w := probe.Weak(b)
					got, ok := table.Find(w, b)
					if want, there := findIn(s, w, b); got != want || ok != there {
						t.Fatalf("%x, blocks of %d, cut %d: %d, %v, not %d, %v", b, size, cut, got, ok, want, there)
					}
				}
			}
		}
	}
}

// P6.5: the greatest table, with blocks that are all the same, or all others.
func TestFindAmongMany(t *testing.T) {
	data := make([]byte, 2*4096)
	for i := range 4096 {
		data[2*i], data[2*i+1] = byte(i>>6), byte(i&63)
	}
	s, _ := block.Make(data, 2, 32)
	table := s.Index()
	for i := range 4096 {
		if got := find(table, string(data[2*i:2*i+2])); got != i {
			t.Fatalf("block %d: %d", i, got)
		}
	}
	s, _ = block.Make(make([]byte, 4096*3-1), 3, 32)
	if table = s.Index(); find(table, "\x00\x00\x00") != 0 || find(table, "\x00\x00") != 4095 || find(table, "\x00") != -1 {
		t.Error("noughts")
	}
}

// P1: a table of sums that don't Check finds nothing, and takes any bytes.
func TestIndexOfWrong(t *testing.T) {
	for name, c := range wrong() {
		table := c.s.Index()
		for _, b := range []string{"", "ab", "a", "b", "\x00", string(make([]byte, 5000))} {
			if got := find(table, b); got != -1 {
				t.Errorf("%s: %q is found at %d", name, b, got)
			}
		}
	}
}

// P1, P6.5: a weak sum that isn't that of the bytes is taken too; no block has both.
func TestFindOtherWeak(t *testing.T) {
	s, _ := block.Make([]byte("abcdef"), 3, 32)
	table := s.Index()
	for _, w := range []uint32{0, 1, probe.Weak([]byte("def")), math.MaxUint32} {
		if i, ok := table.Find(w, []byte("abc")); i != 0 || ok {
			t.Errorf("%x: %d, %v", w, i, ok)
		}
	}
	if i, ok := table.Find(probe.Weak([]byte("def")), nil); i != 0 || ok {
		t.Errorf("nil: %d, %v", i, ok)
	}
}

// P2, rule 4: a table doesn't keep the blocks that it was made of, nor the bytes that were looked for; and Find changes nothing.
func TestTableIsApart(t *testing.T) {
	s, _ := block.Make([]byte("abcdabx"), 2, 8)
	table := s.Index()
	clear(s.Blocks[:cap(s.Blocks)])
	room := []byte("zzabzz")
	for range 3 {
		if i, ok := table.Find(probe.Weak([]byte("ab")), room[2:4]); i != 0 || !ok {
			t.Errorf("ab: %d, %v", i, ok)
		}
		if string(room) != "zzabzz" {
			t.Errorf("the bytes were changed: %q", room)
		}
	}
	if find(table, "cd") != 1 || find(table, "x") != 3 || find(table, "bx") != -1 {
		t.Error("the table changed with the blocks")
	}
}
