package block_test

import (
	"bytes"
	"crypto/sha256"
	"math"
	"slices"
	"testing"

	"wharfinger/api"
	"wharfinger/block"
	"wharfinger/probe"
)

// The calls keep the document's signatures, the limits their values.
var (
	_ func(int, int) int                                  = block.Count
	_ func([]byte, int, int) (block.Signature, api.Errno) = block.Make
	_ func(block.Signature) api.Errno                     = block.Signature.Check
	_ func(block.Signature, int) (int, int)               = block.Signature.Span
	_ func(block.Signature) ([]byte, api.Errno)           = block.Signature.Bytes
	_ func([]byte) (block.Signature, error)               = block.Read
	_ func(block.Signature) *block.Table                  = block.Signature.Index
	_ func(*block.Table, uint32, []byte) (int, bool)      = (*block.Table).Find
	_ [1]struct{}                                         = [block.MinSize]struct{}{}
	_ [4096]struct{}                                      = [block.MaxSize]struct{}{}
	_ [4096]struct{}                                      = [block.MaxBlocks]struct{}{}
)

// blockOf: the sums of one block, by the library's SHA-256.
func blockOf(b []byte, cut int) block.Block {
	x := block.Block{Weak: probe.Weak(b)}
	whole := sha256.Sum256(b)
	copy(x.Strong[:], whole[:cut])
	return x
}

// sumsOf: the sums of a file's blocks, taken off its front one by one.
func sumsOf(data []byte, size, cut int) block.Signature {
	s := block.Signature{Size: size, Cut: cut, Length: len(data)}
	for len(data) > size {
		s.Blocks = append(s.Blocks, blockOf(data[:size], cut))
		data = data[size:]
	}
	if len(data) > 0 {
		s.Blocks = append(s.Blocks, blockOf(data, cut))
	}
	return s
}

// same: are two signatures one, lists that are nil and empty ones being the same?
func same(s, u block.Signature) bool {
	return s.Size == u.Size && s.Cut == u.Cut && s.Length == u.Length && slices.Equal(s.Blocks, u.Blocks)
}

// isZero: nothing is told.
func isZero(s block.Signature) bool { return same(s, block.Signature{}) }

// P6.1: counted one by one.
func TestCount(t *testing.T) {
	for size := 1; size <= 40; size++ {
		want := 0
		for length := range 200 {
			if length > size*want {
				want++
			}
			if got := block.Count(length, size); got != want {
				t.Errorf("%d bytes, blocks of %d: %d, not %d", length, size, got, want)
			}
		}
	}
}

// P6.1: the edges, and numbers that can't be.
func TestCountEdges(t *testing.T) {
	for _, c := range [][3]int{
		{7, 2, 4},
		{0, 1, 0},
		{0, math.MaxInt, 0},
		{1, math.MaxInt, 1},
		{math.MaxInt, 1, math.MaxInt},
		{math.MaxInt, 2, math.MaxInt/2 + 1},
		{math.MaxInt, math.MaxInt, 1},
		{math.MaxInt, math.MaxInt - 1, 2},
		{math.MaxInt - 1, math.MaxInt, 1},
		{5, 0, 0},
		{5, -1, 0},
		{5, math.MinInt, 0},
		{-1, 5, 0},
		{-5, 5, 0},
		{math.MinInt, 1, 0},
		{math.MinInt, -1, 0},
		{-7, -2, 0},
		{0, 0, 0},
	} {
		if got := block.Count(c[0], c[1]); got != c[2] {
			t.Errorf("%d bytes, blocks of %d: %d, not %d", c[0], c[1], got, c[2])
		}
	}
}

// P6.2: the document's example.
func TestMakeExample(t *testing.T) {
	s, e := block.Make([]byte("abc"), 2, 32)
	want := block.Signature{Size: 2, Cut: 32, Length: 3, Blocks: []block.Block{blockOf([]byte("ab"), 32), blockOf([]byte("c"), 32)}}
	if e != api.OK || !same(s, want) {
		t.Errorf("abc: %v, %d", s, e)
	}
}

// P6.2: files of many lengths, blocks of many sizes, all cuts.
func TestMake(t *testing.T) {
	for _, size := range []int{1, 2, 3, 7, 64, 4095, 4096} {
		for _, length := range []int{0, 1, 2, 3, 6, 7, 8, 63, 64, 65, 300, 4094, 4095, 4096} {
			data := probe.Bytes(length)
			for _, cut := range []int{0, 1, 5, 31, 32} {
				s, e := block.Make(data, size, cut)
				if e != api.OK || !same(s, sumsOf(data, size, cut)) || s.Check() != api.OK {
					t.Errorf("%d bytes, blocks of %d, cut %d: %d blocks, %d", length, size, cut, len(s.Blocks), e)
				}
			}
		}
	}
	for cut := range 33 {
		if s, e := block.Make([]byte("abcde"), 2, cut); e != api.OK || !same(s, sumsOf([]byte("abcde"), 2, cut)) {
			t.Errorf("cut %d: %v, %d", cut, s, e)
		}
	}
}

// P6.2: what is refused, in the document's order, and what just isn't.
func TestMakeWrong(t *testing.T) {
	for _, c := range []struct {
		length, size, cut int
		want              api.Errno
	}{
		{3, 1, 0, api.OK},
		{3, 4096, 32, api.OK},
		{3, 0, 0, api.ErrRange},
		{3, -1, 0, api.ErrRange},
		{3, math.MinInt, 0, api.ErrRange},
		{3, 4097, 0, api.ErrRange},
		{3, math.MaxInt, 0, api.ErrRange},
		{3, 1, -1, api.ErrRange},
		{3, 1, math.MinInt, api.ErrRange},
		{3, 1, 33, api.ErrRange},
		{3, 1, math.MaxInt, api.ErrRange},
		{0, 0, 33, api.ErrRange},
		{4096, 1, 4, api.OK},
		{4097, 1, 4, api.ErrLong},
		{4097, 2, 4, api.OK},
		{8192, 2, 4, api.OK},
		{8193, 2, 4, api.ErrLong},
		{8194, 2, 4, api.ErrLong},
		{1 << 24, 4096, 4, api.OK},
		{1<<24 + 1, 4096, 4, api.ErrLong},
		{4097, 1, 33, api.ErrRange},
		{4097, 0, 4, api.ErrRange},
		{1<<24 + 1, 4097, 4, api.ErrRange},
	} {
		s, e := block.Make(make([]byte, c.length), c.size, c.cut)
		if e != c.want {
			t.Errorf("%d bytes, blocks of %d, cut %d: %d, not %d", c.length, c.size, c.cut, e, c.want)
		}
		if e != api.OK && !isZero(s) {
			t.Errorf("%d bytes, blocks of %d, cut %d: sums beside an error", c.length, c.size, c.cut)
		}
		if e == api.OK && len(s.Blocks) != block.Count(c.length, c.size) {
			t.Errorf("%d bytes, blocks of %d: %d blocks", c.length, c.size, len(s.Blocks))
		}
	}
}

// wrong: signatures that don't Check, and why.
func wrong() map[string]struct {
	s    block.Signature
	want api.Errno
} {
	type row = struct {
		s    block.Signature
		want api.Errno
	}
	some := sumsOf([]byte("abababa"), 2, 5).Blocks
	many := make([]block.Block, 4097)
	tail := func(at, index int) []block.Block {
		list := slices.Clone(some)
		list[index].Strong[at] = 1
		return list
	}
	return map[string]row{
		"no size":                   {block.Signature{Size: 0, Cut: 5, Length: 7, Blocks: some}, api.ErrRange},
		"nothing":                   {block.Signature{}, api.ErrRange},
		"a size below 0":            {block.Signature{Size: -2, Cut: 5, Length: 7, Blocks: some}, api.ErrRange},
		"a size too great":          {block.Signature{Size: 4097, Cut: 5, Length: 4097, Blocks: some[:1]}, api.ErrRange},
		"the least size":            {block.Signature{Size: math.MinInt}, api.ErrRange},
		"the greatest size":         {block.Signature{Size: math.MaxInt}, api.ErrRange},
		"a cut below 0":             {block.Signature{Size: 2, Cut: -1, Length: 7, Blocks: some}, api.ErrRange},
		"a cut too great":           {block.Signature{Size: 2, Cut: 33, Length: 7, Blocks: some}, api.ErrRange},
		"the least cut":             {block.Signature{Size: 2, Cut: math.MinInt, Length: 7, Blocks: some}, api.ErrRange},
		"the greatest cut":          {block.Signature{Size: 2, Cut: math.MaxInt, Length: 7, Blocks: some}, api.ErrRange},
		"a length below 0":          {block.Signature{Size: 2, Cut: 5, Length: -1}, api.ErrRange},
		"the least length":          {block.Signature{Size: 2, Cut: 5, Length: math.MinInt}, api.ErrRange},
		"a cut and a length":        {block.Signature{Size: 1, Cut: 33, Length: 4097, Blocks: many}, api.ErrRange},
		"too many blocks":           {block.Signature{Size: 1, Cut: 5, Length: 4097, Blocks: many}, api.ErrLong},
		"too many that aren't":      {block.Signature{Size: 4096, Cut: 5, Length: 1<<24 + 1}, api.ErrLong},
		"the greatest length":       {block.Signature{Size: 4096, Cut: 5, Length: math.MaxInt, Blocks: some}, api.ErrLong},
		"a block more":              {block.Signature{Size: 2, Cut: 5, Length: 6, Blocks: some}, api.ErrForm},
		"a block fewer":             {block.Signature{Size: 2, Cut: 5, Length: 9, Blocks: some}, api.ErrForm},
		"no block":                  {block.Signature{Size: 2, Cut: 5, Length: 1}, api.ErrForm},
		"a block of nothing":        {block.Signature{Size: 2, Cut: 5, Length: 0, Blocks: some[:1]}, api.ErrForm},
		"too many for the length":   {block.Signature{Size: 1, Cut: 5, Length: 4096, Blocks: many}, api.ErrForm},
		"a byte behind the cut":     {block.Signature{Size: 2, Cut: 5, Length: 7, Blocks: tail(5, 0)}, api.ErrForm},
		"the last byte":             {block.Signature{Size: 2, Cut: 5, Length: 7, Blocks: tail(31, 1)}, api.ErrForm},
		"a byte of the last block":  {block.Signature{Size: 2, Cut: 5, Length: 7, Blocks: tail(17, 3)}, api.ErrForm},
		"less counts than is there": {block.Signature{Size: 2, Cut: 4, Length: 7, Blocks: some}, api.ErrForm},
		"nothing counts":            {block.Signature{Size: 2, Cut: 0, Length: 7, Blocks: some}, api.ErrForm},
	}
}

// right: signatures that Check, though no file may have them.
func right() []block.Signature {
	odd := make([]block.Block, 4096)
	for i := range odd {
		odd[i].Weak = uint32(i) << 20
		copy(odd[i].Strong[:], probe.Bytes(31))
	}
	list := []block.Signature{
		{Size: 1},
		{Size: 4096, Cut: 32},
		{Size: 1, Cut: 31, Length: 4096, Blocks: odd},
		{Size: 4096, Cut: 32, Length: 1 << 24, Blocks: odd},
		{Size: 4096, Cut: 32, Length: 1<<24 - 4095, Blocks: odd},
		{Size: 2, Cut: 5, Length: 0, Blocks: []block.Block{}},
		{Size: 2, Cut: 0, Length: 4, Blocks: []block.Block{{Weak: math.MaxUint32}, {Weak: 0}}},
	}
	for _, cut := range []int{0, 5, 32} {
		for _, length := range []int{1, 6, 7, 100} {
			list = append(list, sumsOf(probe.Bytes(length), 3, cut))
		}
	}
	return list
}

// P6.3: Check.
func TestCheck(t *testing.T) {
	for name, c := range wrong() {
		if got := c.s.Check(); got != c.want {
			t.Errorf("%s: %d, not %d", name, got, c.want)
		}
	}
	for i, s := range right() {
		if got := s.Check(); got != api.OK {
			t.Errorf("the right one %d: %d", i, got)
		}
	}
}

// P6.3: each byte of a Strong counts, or must be 0.
func TestCheckEveryByte(t *testing.T) {
	for cut := range 33 {
		for at := range 32 {
			s := sumsOf([]byte("abc"), 2, cut)
			s.Blocks[1].Strong[at] ^= 0x80
			want := api.OK
			if at >= cut {
				want = api.ErrForm
			}
			if got := s.Check(); got != want {
				t.Errorf("cut %d, the byte %d: %d, not %d", cut, at, got, want)
			}
		}
	}
}

// P6.3: the spans of all blocks lie side by side, and are the whole file; of other blocks there is none.
func TestSpan(t *testing.T) {
	for i, s := range right() {
		next := 0
		for j := range s.Blocks {
			at, n := s.Span(j)
			if at != next || n < 1 || n > s.Size || j < len(s.Blocks)-1 && n != s.Size {
				t.Fatalf("the right one %d, block %d: %d, %d", i, j, at, n)
			}
			next += n
		}
		if next != s.Length {
			t.Errorf("the right one %d: %d bytes, not %d", i, next, s.Length)
		}
		for _, j := range []int{-1, len(s.Blocks), len(s.Blocks) + 1, math.MinInt, math.MaxInt} {
			if at, n := s.Span(j); at != 0 || n != 0 {
				t.Errorf("the right one %d, no block %d: %d, %d", i, j, at, n)
			}
		}
	}
}

// P6.3: of sums that don't Check there are no spans.
func TestSpanOfWrong(t *testing.T) {
	for name, c := range wrong() {
		for _, j := range []int{-1, 0, 1, 2, 3, 4, 4096, math.MinInt, math.MaxInt} {
			if at, n := c.s.Span(j); at != 0 || n != 0 {
				t.Errorf("%s, block %d: %d, %d", name, j, at, n)
			}
		}
	}
}

// P2, rule 4: what is handed in is as it was, its spare room too, and isn't kept.
func TestArgumentsStay(t *testing.T) {
	room := probe.Bytes(300)
	before := bytes.Clone(room)
	s, _ := block.Make(room[50:200], 7, 9)
	want := sumsOf(before[50:200], 7, 9)
	if !bytes.Equal(room, before) {
		t.Error("Make changed the data")
	}
	probe.Spoil(room)
	if !same(s, want) {
		t.Error("Make kept the data")
	}
	blocks := append(slices.Clone(want.Blocks), block.Block{Weak: 1}, block.Block{Weak: 2})
	kept := slices.Clone(blocks)
	s.Blocks = blocks[:len(want.Blocks)]
	s.Check()
	s.Span(3)
	s.Bytes()
	s.Index().Find(want.Blocks[2].Weak, before[64:71])
	if !slices.Equal(blocks, kept) {
		t.Error("the blocks were changed")
	}
}

// P2, rule 4: two answers share no memory.
func TestMakesApart(t *testing.T) {
	data := probe.Bytes(100)
	first, _ := block.Make(data, 7, 9)
	second, _ := block.Make(data, 7, 9)
	clear(first.Blocks[:cap(first.Blocks)])
	if !same(second, sumsOf(data, 7, 9)) {
		t.Error("two answers of Make share memory")
	}
}

// errnoOf checks as the document words it.
func errnoOf(s block.Signature) api.Errno {
	if s.Size < 1 || s.Size > 4096 || s.Cut < 0 || s.Cut > 32 || s.Length < 0 {
		return api.ErrRange
	}
	if s.Length > 4096*s.Size {
		return api.ErrLong
	}
	n := 0
	for at := 0; at < s.Length; at += s.Size {
		n++
	}
	if len(s.Blocks) != n {
		return api.ErrForm
	}
	for _, b := range s.Blocks {
		for i, x := range b.Strong {
			if i >= s.Cut && x != 0 {
				return api.ErrForm
			}
		}
	}
	return api.OK
}

// P1, P6.3, P6.4, P6.5: every call takes any signature.
func FuzzAnySignature(f *testing.F) {
	f.Add(2, 5, 7, []byte("abcdefghijklmnop"), 3)
	f.Add(1, 3, 2, []byte("abcdefgh"), 0)
	f.Add(1, 2, 2, []byte("abcdefgh"), 1)
	f.Add(4096, 32, 8192, []byte("abcdefgh"), 1)
	f.Add(math.MaxInt, math.MinInt, math.MaxInt, []byte(nil), math.MaxInt)
	f.Add(1, 0, math.MaxInt, []byte(nil), math.MinInt)
	f.Fuzz(func(t *testing.T, size, cut, length int, raw []byte, i int) {
		s := probe.AnySums(size, cut, length, raw)
		want := errnoOf(s)
		b, e := s.Bytes()
		if got := s.Check(); got != want || e != want {
			t.Fatalf("Check: %d, Bytes: %d, not %d", got, e, want)
		}
		at, n := s.Span(i)
		if want == api.OK && i >= 0 && i < len(s.Blocks) {
			if at != i*s.Size || n != min(s.Size, s.Length-at) {
				t.Errorf("Span of %d: %d, %d", i, at, n)
			}
		} else if at != 0 || n != 0 {
			t.Errorf("Span of no block %d: %d, %d", i, at, n)
		}
		got, ok := s.Index().Find(probe.Weak(raw), raw)
		if index, there := findIn(s, probe.Weak(raw), raw); got != index || ok != there {
			t.Errorf("Find: %d, %v, not %d, %v", got, ok, index, there)
		}
		if want != api.OK {
			if b != nil {
				t.Errorf("bytes beside an error: %x", b)
			}
			return
		}
		if u, err := block.Read(b); err != nil || !same(s, u) {
			t.Errorf("there and back: %v, %v", u, err)
		}
	})
}

// P1, P6.2: Make takes any arguments.
func FuzzMake(f *testing.F) {
	f.Add([]byte("abc"), 2, 32)
	f.Add(probe.Bytes(5000), 1, 4)
	f.Add(probe.Bytes(5000), math.MaxInt, math.MinInt)
	f.Add([]byte(nil), 1, 0)
	f.Fuzz(func(t *testing.T, data []byte, size, cut int) {
		s, e := block.Make(data, size, cut)
		switch {
		case size < 1 || size > 4096 || cut < 0 || cut > 32:
			if e != api.ErrRange || !isZero(s) {
				t.Errorf("blocks of %d, cut %d: %d", size, cut, e)
			}
		case len(data) > 4096*size:
			if e != api.ErrLong || !isZero(s) {
				t.Errorf("%d bytes, blocks of %d: %d", len(data), size, e)
			}
		default:
			if e != api.OK || !same(s, sumsOf(data, size, cut)) {
				t.Errorf("%d bytes, blocks of %d, cut %d: %d", len(data), size, cut, e)
			}
		}
	})
}
