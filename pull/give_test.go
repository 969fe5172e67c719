package pull_test

import (
	"bytes"
	"math"
	"slices"
	"testing"

	"wharfinger/api"
	"wharfinger/block"
	"wharfinger/delta"
	"wharfinger/patch"
	"wharfinger/probe"
	"wharfinger/pull"
	"wharfinger/sum"
	"wharfinger/tree"
)

// sameTold: are two one, lists that are nil and empty ones being the same?
func sameTold(t, u patch.Told) bool {
	return t.Cut == u.Cut && t.Sum == u.Sum && probe.SameTokens(t.Tokens, u.Tokens)
}

// give: that a file is told so.
func give(t *testing.T, j *pull.Job, i int, s block.Signature, data string, want ...delta.Token) {
	t.Helper()
	x, e := j.Give(i, s)
	if e != api.OK || !sameTold(x, patch.Told{Tokens: want, Cut: 32, Sum: sum.Of([]byte(data))}) {
		t.Errorf("Give %d: %v, %d", i, x, e)
	}
}

// refused: that a file is not given, with this error, nor by sums with which it could be.
func refused(t *testing.T, j *pull.Job, i int, want api.Errno) {
	t.Helper()
	if b, e := j.Again(i); e != want || len(b) > 0 {
		t.Errorf("Again %d: %q, %d, not %d", i, b, e, want)
	}
	for _, s := range []block.Signature{probe.Sums(nil, 8, 4), probe.Sums([]byte("text"), 2, 32), {}, {Size: 1, Length: 1}, {Size: 1, Length: 1 << 40}} {
		if x, e := j.Give(i, s); e != want || !sameTold(x, patch.Told{}) {
			t.Errorf("Give %d by %v: %v, %d, not %d", i, s, x, e, want)
		}
	}
}

// P18.2: files told by the sums of what somebody has, the tokens written out.
func TestGive(t *testing.T) {
	s := kept(t, put("r/a", "xcdab"), put("r/b/c", "abcdefg"), put("r/empty", ""), put("a", "other"))
	j := begin(t, s, home("r"), "")
	old := probe.Sums([]byte("abcde"), 2, 4)
	none := probe.Sums(nil, 8, 4)
	for range 2 { // as often as one likes
		give(t, j, 0, old, "xcdab", probe.Text("x"), probe.Blocks(1, 1), probe.Blocks(0, 1))
		give(t, j, 1, old, "abcdefg", probe.Blocks(0, 2), probe.Text("efg"))
		give(t, j, 2, old, "")
		give(t, j, 0, none, "xcdab", probe.Text("xcdab"))
		give(t, j, 1, none, "abcdefg", probe.Text("abcdefg"))
		give(t, j, 2, none, "")
	}
	commit(t, s, put("r/a", "later"), gone("r/b/c"), put("r/b/d", "new"))
	give(t, j, 0, old, "xcdab", probe.Text("x"), probe.Blocks(1, 1), probe.Blocks(0, 1))
	give(t, j, 1, old, "abcdefg", probe.Blocks(0, 2), probe.Text("efg"))
	again(t, j, 1, "abcdefg")
	again(t, j, 2, "")
}

// P18.2: from what is told somebody who has another file makes the right one, whatever they have.
func TestGiveAndApply(t *testing.T) {
	long := string(probe.Bytes(65536))
	texts := []string{"", "x", "01234567", "some text, and more", "more, and some text", long[:1000], long[500:9000], long}
	for _, data := range texts {
		j := begin(t, kept(t, put("r/f", data)), home("r"), "f")
		again(t, j, 0, data)
		for _, old := range texts {
			for _, size := range []int{16, 100, 4096} {
				x, e := j.Give(0, probe.Sums([]byte(old), size, 32))
				if e != api.OK || x.Cut != 32 || x.Sum != sum.Of([]byte(data)) {
					t.Fatalf("%d from %d bytes, %d: %d", len(data), len(old), size, e)
				}
				if out, err := x.Apply([]byte(old), size); err != nil || string(out) != data {
					t.Errorf("%d from %d bytes, %d: %v", len(data), len(old), size, err)
				}
				if len(old) > 0 && old == data && (len(x.Tokens) != 1 || x.Tokens[0].Count == 0) {
					t.Errorf("%d from itself, %d: %d tokens", len(data), size, len(x.Tokens))
				}
			}
		}
	}
}

// P18.2: sums that mislead: the sum of all tells it.
func TestGiveMisled(t *testing.T) {
	j := begin(t, kept(t, put("r/a", "ab")), home("r"), "a")
	x, e := j.Give(0, block.Signature{Size: 1, Cut: 0, Length: 2, Blocks: []block.Block{{Weak: 97<<16 | 97}, {Weak: 98<<16 | 98}}})
	if _, err := x.Apply([]byte("xy"), 1); e != api.OK || probe.Fault(err) != (api.Fault{At: len(x.Tokens), Err: api.ErrDigest}) {
		t.Errorf("%v, %d: %v", x, e, err)
	}
	again(t, j, 0, "ab")
}

// P18.2: what can't be told so, and why; it can be had whole then.
func TestGiveWrong(t *testing.T) {
	one := probe.Sums([]byte("a"), 1, 4)
	for _, c := range []struct {
		name string
		s    block.Signature
		data []byte
		want api.Errno
	}{
		{"as long as can be", one, make([]byte, 65536), api.OK},
		{"a byte too long", one, make([]byte, 65537), api.ErrLong},
		{"the longest that there is", one, make([]byte, 1<<18-1), api.ErrLong},
		{"a byte too long, by sums that can't be", block.Signature{}, make([]byte, 65537), api.ErrLong},
		{"the zero sums", block.Signature{}, []byte("x"), api.ErrRange},
		{"the zero sums, of an empty file", block.Signature{}, nil, api.ErrRange},
		{"a size below 1", block.Signature{Size: 0, Cut: 4}, []byte("x"), api.ErrRange},
		{"a size that is too great", block.Signature{Size: 4097}, []byte("x"), api.ErrRange},
		{"a cut below 0", block.Signature{Size: 8, Cut: -1}, []byte("x"), api.ErrRange},
		{"a cut that is too great", block.Signature{Size: 8, Cut: 33}, []byte("x"), api.ErrRange},
		{"a length below 0", block.Signature{Size: 8, Cut: 4, Length: -1}, []byte("x"), api.ErrRange},
		{"sums with too many blocks", block.Signature{Size: 1, Length: 4097}, []byte("x"), api.ErrLong},
		{"the greatest length", block.Signature{Size: 4096, Length: math.MaxInt}, []byte("x"), api.ErrLong},
		{"sums without their block", block.Signature{Size: 1, Length: 1}, []byte("x"), api.ErrForm},
		{"sums with a block too many", block.Signature{Size: 1, Blocks: one.Blocks}, []byte("x"), api.ErrForm},
		{"a sum with more than its cut", block.Signature{Size: 1, Cut: 3, Length: 1, Blocks: one.Blocks}, []byte("x"), api.ErrForm},
		{"as many tokens as can be", one, bytes.Repeat([]byte("a"), 8192), api.OK},
		{"one token too many", one, bytes.Repeat([]byte("a"), 8193), api.ErrLong},
	} {
		j := begin(t, kept(t, put("r/a", string(c.data)), put("r/b", "x")), home("r"), "")
		for range 2 {
			x, e := j.Give(0, c.s)
			if e != c.want || e != api.OK && !sameTold(x, patch.Told{}) {
				t.Errorf("%s: %d, not %d", c.name, e, c.want)
			}
		}
		again(t, j, 0, string(c.data))
		give(t, j, 1, one, "x", probe.Text("x"))
		end(t, j, api.OK)
	}
}

// P18.2, P18.3: what isn't a file of the job, and when it is over; that is told first, whatever the sums are.
func TestRefused(t *testing.T) {
	s := some(t)
	outside := []int{-1, 2, 3, 10, 64, math.MaxInt, math.MinInt}
	j := begin(t, s, home("r"), "a")
	for _, i := range outside {
		refused(t, j, i, api.ErrRange)
	}
	refused(t, begin(t, s, home("r"), "none"), 0, api.ErrRange)
	refused(t, begin(t, s, home("r"), "b"), 1, api.ErrRange)
	again(t, j, 0, "3")
	again(t, j, 1, "2")
	end(t, j, api.OK)
	for _, i := range append(outside, 0, 1) {
		refused(t, j, i, api.ErrPhase)
	}
}

// P18.3: a version is let go once; what else the job tells stays.
func TestEnd(t *testing.T) {
	s := some(t)
	one, two := begin(t, s, home("r"), "a"), begin(t, s, home("r"), "")
	commit(t, s, put("r/a/x", "later"))
	if n := s.States(); n != 11 {
		t.Fatalf("%d states", n)
	}
	end(t, one, api.OK)
	for range 3 {
		end(t, one, api.ErrPhase)
		looked(t, s, 1) // by the other one
	}
	if w := one.Word(); one.Version() != 1 || w.Num != 1 || !slices.Equal(one.Names(), []string{"a/b/y", "a/x"}) || !slices.Equal(w.Paths, one.Names()) {
		t.Errorf("behind End: %d, %q", one.Version(), one.Names())
	}
	again(t, two, 3, "2")
	end(t, two, api.OK)
	end(t, two, api.ErrPhase)
	looked(t, s)
	if n := s.States(); n != 10 {
		t.Errorf("%d states are kept", n)
	}
	if _, e := s.Read(1, "r/b"); e != api.ErrGone {
		t.Errorf("Read at 1: %d", e)
	}
}

// P18.3: looks of others stay, also at the same version.
func TestEndAmongOthers(t *testing.T) {
	s := some(t)
	j := begin(t, s, home("r"), "")
	s.Pin()
	end(t, j, api.OK)
	looked(t, s, 1)
	end(t, j, api.ErrPhase)
	looked(t, s, 1)
	if e := s.Unpin(1); e != api.OK {
		t.Errorf("Unpin: %d", e)
	}
	looked(t, s)
	end(t, j, api.ErrPhase)
}

// P18.3: a job is over once by its End, also where somebody else let the version go that it looks at.
func TestEndOfWhatIsLetGo(t *testing.T) {
	s := some(t)
	j := begin(t, s, home("r"), "b")
	if e := s.Unpin(1); e != api.OK {
		t.Fatal(e)
	}
	end(t, j, api.OK)
	end(t, j, api.ErrPhase)
	refused(t, j, 0, api.ErrPhase)
	looked(t, s)
}

// P2: nothing of a job changes files, versions or looks, but New and End.
func TestJobsChangeNothing(t *testing.T) {
	s := some(t)
	j := begin(t, s, home("r"), "")
	j.Names()
	j.Word()
	for i := range 8 {
		j.Again(i - 1)
		j.Give(i-1, probe.Sums([]byte("old"), 1, 4))
		j.Give(i-1, block.Signature{})
	}
	pull.New(s, home("r"), "//")
	if s.Now() != 1 || s.States() != 10 || s.Bytes(1, "") != 10 {
		t.Errorf("Now %d, States %d, %d bytes", s.Now(), s.States(), s.Bytes(1, ""))
	}
	looked(t, s, 1)
}

// P2, rule 4: the sums are as they were, their spare room too, and aren't kept.
func TestSumsAreNotShared(t *testing.T) {
	j := begin(t, kept(t, put("r/a", "abcdef")), home("r"), "")
	sums := probe.Sums([]byte("abcdef"), 2, 32)
	room := append(slices.Clone(sums.Blocks), block.Block{Weak: 7})
	before := slices.Clone(room)
	sums.Blocks = room[:3]
	want := []delta.Token{probe.Blocks(0, 3)}
	give(t, j, 0, sums, "abcdef", want...)
	if !slices.Equal(room, before) {
		t.Error("the sums became others")
	}
	x, _ := j.Give(0, sums)
	clear(room)
	if !probe.SameTokens(x.Tokens, want) {
		t.Errorf("%v", x)
	}
}

// P2, rule 4: each call answers new memory.
func TestAnswersShareNothing(t *testing.T) {
	s := kept(t, put("r/a", "abcdef"), put("r/b", "x"))
	j := begin(t, s, home("r"), "")
	old := probe.Sums([]byte("cd"), 2, 4)
	want := []delta.Token{probe.Text("ab"), probe.Blocks(0, 1), probe.Text("ef")}
	for range 2 {
		names, w := j.Names(), j.Word()
		data, _ := j.Again(0)
		x, _ := j.Give(0, old)
		clear(names[:cap(names)])
		if !slices.Equal(w.Paths, []string{"a", "b"}) {
			t.Errorf("the word's paths became %q", w.Paths)
		}
		clear(w.Paths[:cap(w.Paths)])
		probe.Spoil(data)
		if !probe.SameTokens(x.Tokens, want) {
			t.Errorf("the tokens became %v", x.Tokens)
		}
		probe.SpoilTokens(x.Tokens)
		if n := j.Names(); !slices.Equal(n, []string{"a", "b"}) || !slices.Equal(j.Word().Paths, n) {
			t.Errorf("the names became %q", n)
		}
		again(t, j, 0, "abcdef")
		give(t, j, 0, old, "abcdef", want...)
	}
	if data, _ := s.Read(1, "r/a"); string(data) != "abcdef" {
		t.Errorf("the store's file became %q", data)
	}
}

// P18.2: files that are longer than any job takes in are given, too: the longest that are told.
func TestLongest(t *testing.T) {
	data := probe.Bytes(65536)
	s := kept(t, tree.Change{Path: "r/a", Data: data})
	j := begin(t, s, home("r"), "")
	give(t, j, 0, probe.Sums(data, 16, 8), string(data), probe.Blocks(0, 4096))
	give(t, j, 0, probe.Sums(nil, 16, 8), string(data), delta.Token{Data: data})
}
